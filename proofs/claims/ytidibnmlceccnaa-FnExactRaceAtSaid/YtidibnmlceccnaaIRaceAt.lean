/-
  What the program's RaceAt comes to.
-/
import Derived.Test.YtidibnmlceccnaaCWords
import Derived.Test.YtidibnmlceccnaaSZer
import Derived.Deep.RegionHeld3
import Derived.Deep.RegionLaw
namespace Go.Proofs.Ytidibnmlceccnaa
open Go.RowKit Pl
set_option maxHeartbeats 2000000
set_option maxRecDepth 100000
set_option linter.unusedVariables false

def LeC (a b : Ck) : Prop := ∀ p, p < 3 → a p ≤ b p
theorem leC_iff (a b : Ck) : leC a b = true ↔ LeC a b := by
  unfold leC LeC
  simp only [Bool.and_eq_true, decide_eq_true_eq]
  constructor
  · rintro ⟨h0, h1, h2⟩ p hp
    have : p = 0 ∨ p = 1 ∨ p = 2 := by omega
    rcases this with rfl | rfl | rfl <;> assumption
  · intro h
    exact ⟨h 0 (by omega), h 1 (by omega), h 2 (by omega)⟩
theorem LeC.trans {a b c : Ck} (h : LeC a b) (k : LeC b c) : LeC a c := fun p hp => Nat.le_trans (h p hp) (k p hp)
/-- A clock that knows, of each event that it knows, all that this one knows. -/
def VC (l : Evts) (k : Nat) (c : Ck) : Prop := ∀ (i : Nat) (e : Evt), i < k → l[i]? = some e → ckK l i e.t.toNat ≤ c e.t.toNat → ∀ p, ckK l i p ≤ c p
theorem VC.less {l : Evts} {k : Nat} {c : Ck} (h : VC l (k + 1) c) : VC l k c := fun i e hi => h i e (by omega)
def thE (l : Evts) : Prop := ∀ (i : Nat) (e : Evt), l[i]? = some e → e.t.toNat < 3 ∧ e.x.okb = true
structure VInv (l : Evts) (k : Nat) : Prop where
  own : ∀ i e, i < k → l[i]? = some e → ∀ p, ckK l i p ≤ stK l k e.t.toNat p
  top : ∀ q u, u < 3 → stK l k q u ≤ stK l k u u
  vc : ∀ q, VC l k (stK l k q)
theorem now_at (S : Nat → Ck) (e : Evt) (p : Nat) : nowC S e p = if p = e.t.toNat then max (S e.t.toNat p) (S (metN e) p) + 1 else max (S e.t.toNat p) (S (metN e) p) := by
  unfold nowC incC upd joinC
  split
  · rename_i hp; subst hp; rfl
  · rfl
theorem met_hi {e : Evt} (h : e.x.okb = true) : metN e = e.t.toNat ∨ 6 ≤ metN e := by
  rcases met_cases h with h | h | h <;> omega
theorem vc_now {l : Evts} {k : Nat} {e : Evt} (I : VInv l k) (he : l[k]? = some e) : VC l (k + 1) (ckK l k) := by
  intro i x hi hx hle p
  by_cases hk : i = k
  · subst hk; exact Nat.le_refl _
  · have hck : ckK l k = nowC (stK l k) e := by unfold ckK; rw [gE_at he]
    rw [hck] at hle ⊢
    by_cases hu : x.t.toNat = e.t.toNat
    · have := I.own i x (by omega) hx p
      rw [hu] at this
      exact Nat.le_trans this (now_t _ _ _)
    · rw [now_at, if_neg hu] at hle
      rcases Nat.le_total (stK l k e.t.toNat x.t.toNat) (stK l k (metN e) x.t.toNat) with h | h
      · exact Nat.le_trans (I.vc (metN e) i x (by omega) hx (by omega) p) (now_m _ _ _)
      · exact Nat.le_trans (I.vc e.t.toNat i x (by omega) hx (by omega) p) (now_t _ _ _)
theorem now_top {l : Evts} {k : Nat} {e : Evt} (I : VInv l k) (he : l[k]? = some e) (ht : e.t.toNat < 3) : ckK l k e.t.toNat = stK l k e.t.toNat e.t.toNat + 1 := by
  have hck : ckK l k = nowC (stK l k) e := by unfold ckK; rw [gE_at he]
  rw [hck, now_at, if_pos rfl]
  have := I.top (metN e) e.t.toNat ht
  omega
theorem vinv_next {l : Evts} {k : Nat} {e : Evt} (hT : thE l) (I : VInv l k) (he : l[k]? = some e) : VInv l (k + 1) := by
  obtain ⟨ht, hok⟩ := hT k e he
  have hck : ckK l k = nowC (stK l k) e := by unfold ckK; rw [gE_at he]
  have hnow := vc_now I he
  have htop := now_top I he ht
  have hmet := met_hi hok
  have hS : ∀ q, stK l (k + 1) q = if q = e.t.toNat ∨ (q = metN e ∧ e.x.k ≠ 6) then ckK l k else stK l k q := fun q => by
    rw [stK_next he, next_at, hck]
  have hSt : stK l (k + 1) e.t.toNat = ckK l k := by rw [hS, if_pos (Or.inl rfl)]
  have hSu : ∀ u, u < 3 → u ≠ e.t.toNat → stK l (k + 1) u = stK l k u := fun u hu hne => by rw [hS, if_neg (by omega)]
  have hge : ∀ p, stK l k e.t.toNat p ≤ ckK l k p := fun p => by rw [hck]; exact now_t _ _ _
  refine ⟨fun i x hi hx p => ?_, fun q u hu => ?_, fun q => ?_⟩
  · by_cases hk : i = k
    · subst hk
      rw [he] at hx
      injection hx with hx
      subst hx
      rw [hSt]; exact Nat.le_refl _
    · have h1 := I.own i x (by omega) hx p
      by_cases hu : x.t.toNat = e.t.toNat
      · rw [hu] at h1 ⊢
        rw [hSt]; exact Nat.le_trans h1 (hge p)
      · rw [hSu _ (hT i x hx).1 hu]; exact h1
  · have hold : ∀ q, stK l k q u ≤ stK l (k + 1) u u := fun q => by
      have h1 := I.top q u hu
      by_cases hut : u = e.t.toNat
      · subst hut; rw [hSt, htop]; omega
      · rw [hSu u hu hut]; exact h1
    rw [hS q]
    split
    · by_cases hut : u = e.t.toNat
      · subst hut; rw [hSt]; exact Nat.le_refl _
      · have h1 := hold e.t.toNat
        have h2 := hold (metN e)
        rw [hck, now_at, if_neg hut]
        omega
    · exact hold q
  · rw [hS q]
    split
    · exact hnow
    · intro i x hi hx hle p
      by_cases hk : i = k
      · subst hk
        rw [he] at hx
        injection hx with hx
        subst hx
        have := I.top q e.t.toNat ht
        omega
      · exact I.vc q i x (by omega) hx hle p
theorem vinv_all {l : Evts} (hT : thE l) : ∀ k, k ≤ l.length → VInv l k := by
  intro k
  induction k with
  | zero =>
    intro _
    exact ⟨fun i _ h => absurd h (by omega), fun _ _ _ => Nat.le_refl _, fun _ i _ h => absurd h (by omega)⟩
  | succ k ih =>
    intro h
    exact vinv_next hT (ih (by omega)) (List.getElem?_eq_getElem (show k < l.length by omega))

/-! ### what is kept of a place -/
def zeroC : Ck := fun _ => 0
def epC (c : Ck) (t : Nat) : Ck := upd zeroC t (c t)
structure Ep where
  wrote : Ck
  read : Ck
def raceQ (s : Ep) (wr : Bool) (c : Ck) : Bool := !leC s.wrote c || (wr && !leC s.read c)
def noteQ (s : Ep) (wr : Bool) (t : Nat) (c : Ck) : Ep :=
  if wr then ⟨epC c t, zeroC⟩ else if leC s.read c then ⟨s.wrote, epC c t⟩ else ⟨s.wrote, joinC s.read (epC c t)⟩
structure Sp where
  W : Ck
  R : Nat → Ck
def allR3 (R : Nat → Ck) (c : Ck) : Bool := leC (R 0) c && (leC (R 1) c && leC (R 2) c)
def badQ (s : Sp) (wr : Bool) (c : Ck) : Bool := !leC s.W c || (wr && !allR3 s.R c)
def noteP (s : Sp) (wr : Bool) (t : Nat) (c : Ck) : Sp := ⟨if wr then c else s.W, fun u => if u = t then c else s.R u⟩
theorem allR3_iff (R : Nat → Ck) (c : Ck) : allR3 R c = true ↔ ∀ t, t < 3 → LeC (R t) c := by
  unfold allR3
  simp only [Bool.and_eq_true, leC_iff]
  constructor
  · rintro ⟨h0, h1, h2⟩ t ht
    have : t = 0 ∨ t = 1 ∨ t = 2 := by omega
    rcases this with rfl | rfl | rfl <;> assumption
  · intro h
    exact ⟨h 0 (by omega), h 1 (by omega), h 2 (by omega)⟩
structure PInv (l : Evts) (k : Nat) (q : Ep) (s : Sp) : Prop where
  a : ∀ c, VC l k c → (LeC q.wrote c ↔ LeC s.W c)
  b : ∀ c, VC l k c → LeC q.wrote c → (LeC q.read c ↔ ∀ t, t < 3 → LeC (s.R t) c)
  c : ∀ t, t < 3 → ∀ p, s.R t p ≤ stK l k t p
theorem pinv_zero (l : Evts) : PInv l 0 ⟨zeroC, zeroC⟩ ⟨zeroC, fun _ => zeroC⟩ :=
  ⟨fun _ _ => Iff.rfl, fun _ _ h => ⟨fun _ _ _ => h, fun _ => h⟩, fun _ _ _ => Nat.le_refl _⟩
/-- Both tell of an event's race alike. -/
theorem race_same {l : Evts} {k : Nat} {e : Evt} {q : Ep} {s : Sp} (I : VInv l k) (P : PInv l k q s) (he : l[k]? = some e) (wr : Bool) : raceQ q wr (ckK l k) = badQ s wr (ckK l k) := by
  have hv := (vc_now I he).less
  have ha := P.a _ hv
  have hb := P.b _ hv
  unfold raceQ badQ
  rw [Bool.eq_iff_iff]
  have e1 : leC q.wrote (ckK l k) = leC s.W (ckK l k) := by rw [Bool.eq_iff_iff, leC_iff, leC_iff]; exact ha
  rw [e1]
  by_cases hw : leC s.W (ckK l k) = true
  · have e2 : leC q.read (ckK l k) = allR3 s.R (ckK l k) := by
      rw [Bool.eq_iff_iff, leC_iff, allR3_iff]
      exact hb (by rw [← leC_iff, e1]; exact hw)
    rw [e2]
  · rw [Bool.not_eq_true] at hw
    rw [hw]; simp
theorem ep_le {l : Evts} {k : Nat} {e : Evt} {c : Ck} (he : l[k]? = some e) (ht : e.t.toNat < 3) (hv : VC l (k + 1) c) : LeC (epC (ckK l k) e.t.toNat) c ↔ LeC (ckK l k) c := by
  constructor
  · intro h p hp
    have h1 := h e.t.toNat ht
    unfold epC upd at h1
    rw [if_pos rfl] at h1
    exact hv k e (by omega) he h1 p
  · intro h p hp
    unfold epC upd
    split
    · rename_i h1; subst h1; exact h _ hp
    · exact Nat.zero_le _
theorem pinv_off {l : Evts} {k : Nat} {e : Evt} {q : Ep} {s : Sp} (hT : thE l) (I : VInv l k) (P : PInv l k q s) (he : l[k]? = some e) : PInv l (k + 1) q s := by
  refine ⟨fun c hv => P.a c hv.less, fun c hv => P.b c hv.less, fun t ht p => Nat.le_trans (P.c t ht p) ?_⟩
  rw [stK_next he, next_at]
  split
  · have h1 : t = e.t.toNat := by have := met_hi (hT k e he).2; omega
    subst h1
    exact now_t _ _ _
  · exact Nat.le_refl _
theorem pinv_on {l : Evts} {k : Nat} {e : Evt} {q : Ep} {s : Sp} (hT : thE l) (I : VInv l k) (P : PInv l k q s) (he : l[k]? = some e) (wr : Bool) (hr : raceQ q wr (ckK l k) = false) :
    PInv l (k + 1) (noteQ q wr e.t.toNat (ckK l k)) (noteP s wr e.t.toNat (ckK l k)) := by
  obtain ⟨ht, hok⟩ := hT k e he
  have hvk := vc_now I he
  have hck : ckK l k = nowC (stK l k) e := by unfold ckK; rw [gE_at he]
  have hSt : stK l (k + 1) e.t.toNat = ckK l k := by rw [stK_next he, next_at, if_pos (Or.inl rfl), hck]
  have hge : ∀ p, stK l k e.t.toNat p ≤ ckK l k p := fun p => by rw [hck]; exact now_t _ _ _
  have P' := pinv_off hT I P he
  have hw : LeC q.wrote (ckK l k) := by
    rw [← leC_iff]
    unfold raceQ at hr
    cases h : leC q.wrote (ckK l k)
    · rw [h] at hr; simp at hr
    · rfl
  have hc : ∀ t, t < 3 → ∀ p, (noteP s wr e.t.toNat (ckK l k)).R t p ≤ stK l (k + 1) t p := fun t ht' p => by
    show (if t = e.t.toNat then ckK l k else s.R t) p ≤ _
    split
    · rename_i h; subst h; rw [hSt]; exact Nat.le_refl _
    · exact P'.c t ht' p
  have hRt : LeC (s.R e.t.toNat) (ckK l k) := fun p _ => Nat.le_trans (P.c _ ht p) (hge p)
  cases wr with
  | true =>
    have hrd : ∀ t, t < 3 → LeC (s.R t) (ckK l k) := by
      have h1 : leC q.read (ckK l k) = true := by
        unfold raceQ at hr
        cases h : leC q.read (ckK l k)
        · rw [h] at hr; simp at hr
        · rfl
      exact (P.b _ hvk.less hw).1 ((leC_iff _ _).1 h1)
    refine ⟨fun c hv => ?_, fun c hv hl => ?_, hc⟩
    · exact ep_le he ht hv
    · have hl' := (ep_le he ht hv).1 hl
      refine ⟨fun _ t ht' => ?_, fun _ p _ => Nat.zero_le _⟩
      show LeC (if t = e.t.toNat then ckK l k else s.R t) c
      split
      · exact hl'
      · exact (hrd t ht').trans hl'
  | false =>
    have hpa : ∀ c, VC l (k + 1) c → (LeC q.wrote c ↔ LeC s.W c) := fun c hv => P.a c hv.less
    cases hrd : leC q.read (ckK l k) with
    | true =>
      have hall := (P.b _ hvk.less hw).1 ((leC_iff _ _).1 hrd)
      have e1 : noteQ q false e.t.toNat (ckK l k) = ⟨q.wrote, epC (ckK l k) e.t.toNat⟩ := by unfold noteQ; rw [if_neg (by decide), if_pos hrd]
      rw [e1]
      refine ⟨hpa, fun c hv hl => ?_, hc⟩
      show LeC (epC (ckK l k) e.t.toNat) c ↔ _
      rw [ep_le he ht hv]
      constructor
      · intro h t ht'
        show LeC (if t = e.t.toNat then ckK l k else s.R t) c
        split
        · exact h
        · exact (hall t ht').trans h
      · intro h
        have := h e.t.toNat ht
        have e2 : (noteP s false e.t.toNat (ckK l k)).R e.t.toNat = ckK l k := if_pos rfl
        rwa [e2] at this
    | false =>
      have e1 : noteQ q false e.t.toNat (ckK l k) = ⟨q.wrote, joinC q.read (epC (ckK l k) e.t.toNat)⟩ := by unfold noteQ; rw [if_neg (by decide), if_neg (by rw [hrd]; decide)]
      rw [e1]
      refine ⟨hpa, fun c hv hl => ?_, hc⟩
      have hb := P.b c hv.less hl
      have he2 := ep_le he ht hv
      have hj : LeC (joinC q.read (epC (ckK l k) e.t.toNat)) c ↔ LeC q.read c ∧ LeC (epC (ckK l k) e.t.toNat) c := by
        constructor
        · intro h
          exact ⟨fun p hp => by have := h p hp; simp only [joinC] at this; omega, fun p hp => by have := h p hp; simp only [joinC] at this; omega⟩
        · rintro ⟨h1, h2⟩ p hp
          have := h1 p hp; have := h2 p hp; simp only [joinC]; omega
      show LeC (joinC q.read (epC (ckK l k) e.t.toNat)) c ↔ _
      rw [hj, hb, he2]
      constructor
      · rintro ⟨h1, h2⟩ t ht'
        show LeC (if t = e.t.toNat then ckK l k else s.R t) c
        split
        · exact h2
        · exact h1 t ht'
      · intro h
        have h2 : LeC (ckK l k) c := by
          have := h e.t.toNat ht
          have e2 : (noteP s false e.t.toNat (ckK l k)).R e.t.toNat = ckK l k := if_pos rfl
          rwa [e2] at this
        refine ⟨fun t ht' => ?_, h2⟩
        by_cases hte : t = e.t.toNat
        · subst hte; exact hRt.trans h2
        · have := h t ht'
          have e2 : (noteP s false e.t.toNat (ckK l k)).R t = s.R t := if_neg hte
          rwa [e2] at this

/-! ### along an order -/
def plE (e : Evt) : Int := placeZ e.x.k e.x.a e.x.b e.x.c e.x.s
def wrE (e : Evt) : Bool := writesB e.x.k e.x.a e.x.b e.x.c e.x.s
def seenK (l : Evts) : Nat → Nat → Ep
  | 0 => fun _ => ⟨zeroC, zeroC⟩
  | k + 1 => fun P => if plE (gE l k) = (P : Int) then noteQ (seenK l k P) (wrE (gE l k)) (gE l k).t.toNat (ckK l k) else seenK l k P
def keptK (l : Evts) : Nat → Nat → Sp
  | 0 => fun _ => ⟨zeroC, fun _ => zeroC⟩
  | k + 1 => fun P => if plE (gE l k) = (P : Int) then noteP (keptK l k P) (wrE (gE l k)) (gE l k).t.toNat (ckK l k) else keptK l k P
def raceK (l : Evts) (k : Nat) : Bool := decide (0 ≤ plE (gE l k)) && raceQ (seenK l k (plE (gE l k)).toNat) (wrE (gE l k)) (ckK l k)
def badK (l : Evts) (k : Nat) : Bool := decide (0 ≤ plE (gE l k)) && badQ (keptK l k (plE (gE l k)).toNat) (wrE (gE l k)) (ckK l k)
def fstZ (r : Nat → Bool) : Nat → Nat → Int
  | 0, _ => -1
  | m + 1, k => if r k then (k : Int) else fstZ r m (k + 1)
theorem pinv_all {l : Evts} (hT : thE l) : ∀ k, k ≤ l.length → (∀ j, j < k → raceK l j = false) → ∀ P, PInv l k (seenK l k P) (keptK l k P) := by
  intro k
  induction k with
  | zero => intro _ _ P; exact pinv_zero l
  | succ k ih =>
    intro hk hr P
    have he : l[k]? = some (gE l k) := by
      have h := List.getElem?_eq_getElem (show k < l.length by omega)
      rw [gE_at h]; exact h
    have I := vinv_all hT k (by omega)
    have P0 := ih (by omega) (fun j hj => hr j (by omega)) P
    show PInv l (k + 1) (if plE (gE l k) = (P : Int) then _ else _) (if plE (gE l k) = (P : Int) then _ else _)
    by_cases hp : plE (gE l k) = (P : Int)
    · rw [if_pos hp, if_pos hp]
      have h1 := hr k (by omega)
      unfold raceK at h1
      rw [hp, Int.toNat_natCast, show decide ((0 : Int) ≤ (P : Int)) = true from decide_eq_true (by omega), Bool.true_and] at h1
      exact pinv_on hT I P0 he _ h1
    · rw [if_neg hp, if_neg hp]
      exact pinv_off hT I P0 he
theorem race_bad {l : Evts} (hT : thE l) {k : Nat} (hk : k < l.length) (hr : ∀ j, j < k → raceK l j = false) : badK l k = raceK l k := by
  have he : l[k]? = some (gE l k) := by
    have h := List.getElem?_eq_getElem hk
    rw [gE_at h]; exact h
  unfold badK raceK
  rw [race_same (vinv_all hT k (by omega)) (pinv_all hT k (by omega) hr _) he]
theorem fst_same {l : Evts} (hT : thE l) : ∀ m k, k + m = l.length → (∀ j, j < k → raceK l j = false) → fstZ (badK l) m k = fstZ (raceK l) m k := by
  intro m
  induction m with
  | zero => intro k _ _; rfl
  | succ m ih =>
    intro k hk hr
    unfold fstZ
    rw [race_bad hT (by omega) hr]
    by_cases h : raceK l k = true
    · rw [if_pos h, if_pos h]
    · rw [if_neg h, if_neg h]
      rw [Bool.not_eq_true] at h
      exact ih (k + 1) (by omega) fun j hj => by
        by_cases hj2 : j = k
        · subst hj2; exact h
        · exact hr j (by omega)
end Go.Proofs.Ytidibnmlceccnaa
namespace Go.Proofs.Ytidibnmlceccnaa
open Go.RowKit Pl Go.BigFrame
set_option maxHeartbeats 4000000
set_option maxRecDepth 100000
set_option linter.unusedVariables false

theorem low_zero : Low zeroC := fun _ => by show (0 : Nat) < 128; omega
theorem low_ep {c : Ck} (h : Low c) (t : Nat) : Low (epC c t) := fun p => by
  unfold epC upd
  split
  · exact h t
  · exact low_zero p
theorem enc_zero : enc WC zeroC = 0 := rfl
theorem epoch_any (c : Ck) (t : Nat) (w : World) (ht : t < 3) (hc : Low c) : Calls Try.prog 153 #[.int .u64 (enc WC c : Nat), .int .i64 t] w fun e w' => e = .returned (.int .u64 (enc WC (epC c t) : Nat)) ∧ Below w.heap.size w w' := by
  have hct := hc t
  have h1 := Lib.hid (entF flc7 (okC hc) t (show t < 3 from ht) w ((c t : Nat) : Int) (Lib.hid (by rw [Nat.zero_add]; show ((c t : Nat) : Int) + 0 = _; omega)))
  have h2 := Lib.hid (fun w1 => wentF flc7 (okC low_zero) t (c t) (c t : Int) (show t < 3 from ht) (show c t < 2 ^ 8 by omega) (by show ((c t : Nat) : Int) = ((c t : Nat) : Int) + 0; omega) w1)
  have h2 := Lib.hid (fun w1 => by have := h2.out w1; rwa [Nat.zero_add] at this)
  unfold epC
  rw [enc_zero] at h2
  generalize enc WC (upd zeroC t (c t)) = R at *
  generalize enc WC c = A at *
  go_enter Try.func153, Try.ntmps153
  go_wp2_with fail
  refine h1.out.mono ?_
  rintro e w1 ⟨rfl, hb1⟩
  have B1 := Lib.hid hb1
  clear hb1
  go_wp2_with fail
  refine (h2.out w1).mono ?_
  rintro e w2 ⟨rfl, hb2⟩
  go_wp2
  go_ret
  exact ⟨rfl, below_on B1.out hb2⟩
structure LowE (s : Ep) : Prop where
  w : Low s.wrote
  r : Low s.read
theorem low_note {s : Ep} {wr : Bool} {t : Nat} {c : Ck} (h : LowE s) (hc : Low c) : LowE (noteQ s wr t c) := by
  unfold noteQ
  split
  · exact ⟨low_ep hc t, low_zero⟩
  · split
    · exact ⟨h.w, low_ep hc t⟩
    · exact ⟨h.w, join_low h.r (low_ep hc t)⟩
theorem low_seen {l : Evts} : ∀ k, k ≤ l.length → l.length ≤ 9 → ∀ P, LowE (seenK l k P) := by
  intro k
  induction k with
  | zero => intro _ _ P; exact ⟨low_zero, low_zero⟩
  | succ k ih =>
    intro h h9 P
    show LowE (if plE (gE l k) = (P : Int) then _ else _)
    split
    · exact low_note (ih (by omega) h9 P) (ck_low (by omega))
    · exact ih (by omega) h9 P
abbrev EpV (s : Ep) : Value := .agg #[.int .u64 (enc WC s.wrote : Nat), .int .u64 (enc WC s.read : Nat)]
theorem rwith_any (s : Ep) (k a b c : Int) (ss : Bool) (ck : Ck) (w : World) (hs : LowE s) (hc : Low ck) (r : Bool) (hr : Hid (raceQ s (writesB k a b c ss) ck = r)) :
    Calls Try.prog 105 #[EpV s, St k a b c ss, .int .u64 (enc WC ck : Nat)] w fun e w' => e = .returned (.bool r) ∧ Below w.heap.size w w' := by
  have hr0 := hr.out
  clear hr
  unfold raceQ at hr0
  obtain ⟨x, hx⟩ : ∃ x, leC s.wrote ck = x := ⟨_, rfl⟩
  obtain ⟨y, hy⟩ : ∃ y, leC s.read ck = y := ⟨_, rfl⟩
  obtain ⟨q, hq⟩ : ∃ q, writesB k a b c ss = q := ⟨_, rfl⟩
  rw [hx, hy, hq] at hr0
  have H1 := Lib.hid (fun v : World => wwithin_any s.wrote ck v hs.w hc x (Lib.hid hx))
  have H2 := Lib.hid (fun v : World => wwithin_any s.read ck v hs.r hc y (Lib.hid hy))
  have H3 := Lib.hid (fun v : World => ret_bool hq (iwrites_any k a b c ss v))
  clear hx hy hq
  show Calls Try.prog 105 #[.agg #[.int .u64 (enc WC s.wrote : Nat), .int .u64 (enc WC s.read : Nat)], St k a b c ss, .int .u64 (enc WC ck : Nat)] w _
  generalize enc WC s.wrote = A at *
  generalize enc WC s.read = R at *
  generalize enc WC ck = C at *
  obtain ⟨W, hW⟩ : ∃ W, W = (w.alloc (.cells #[.int .u64 (A : Nat), .int .u64 (R : Nat)] 134)).alloc (.cells #[.int .i64 k, .int .i64 a, .int .i64 b, .int .i64 c, .bool ss] 79) := ⟨_, rfl⟩
  have bW : Below w.heap.size w W := by rw [hW]; go_grown
  have k0 : Bk W w.heap.size 134 #[.int .u64 (A : Nat), .int .u64 (R : Nat)] := by rw [hW]; exact (Bk.new w _ _).alloc _
  have k1 : Bk W (w.heap.size + 1) 79 #[.int .i64 k, .int .i64 a, .int .i64 b, .int .i64 c, .bool ss] := by
    rw [hW]; have := Bk.new (w.alloc (.cells #[.int .u64 (A : Nat), .int .u64 (R : Nat)] 134)) #[.int .i64 k, .int .i64 a, .int .i64 b, .int .i64 c, .bool ss] 79
    rwa [World.size_alloc] at this
  have K0 := Lib.hid k0
  have K1 := Lib.hid k1
  have BW := Lib.hid bW
  have HW := Lib.hid hW
  clear hW bW k0 k1
  go_enter Try.func105, Try.ntmps105
  go_wp2_with fail
  rw [← HW.out]
  go_wp2_with fail
  refine (H1.out W).mono ?_
  rintro e w1 ⟨rfl, hb1⟩
  have B1 := Lib.hid (below_on BW.out hb1)
  have c0 : w1.cell? ⟨w.heap.size, 1, none⟩ = some (.int .u64 (R : Nat)) := (K0.out.below hb1 K0.out.lt).cell 1
  have l0 := (K0.out.below hb1 K0.out.lt).lt
  have kk := K1.out.below hb1 K1.out.lt
  have l1 := kk.lt
  have y0 : w1.cell? ⟨w.heap.size + 1, 0, none⟩ = some (.int .i64 k) := kk.cell 0
  have y1 : w1.cell? ⟨w.heap.size + 1, 1, none⟩ = some (.int .i64 a) := kk.cell 1
  have y2 : w1.cell? ⟨w.heap.size + 1, 2, none⟩ = some (.int .i64 b) := kk.cell 2
  have y3 : w1.cell? ⟨w.heap.size + 1, 3, none⟩ = some (.int .i64 c) := kk.cell 3
  have y4 : w1.cell? ⟨w.heap.size + 1, 4, none⟩ = some (.bool ss) := kk.cell 4
  clear hb1 kk
  cases x with
  | false =>
    have er : r = true := by rw [← hr0]; rfl
    go_wp2
    go_ret
    exact ⟨by rw [er]; rfl, B1.out⟩
  | true =>
    go_wp2_with fail
    refine (H3.out w1).mono ?_
    rintro e w2 ⟨rfl, hb2⟩
    have B2 := Lib.hid (below_on B1.out hb2)
    have c2 : w2.cell? ⟨w.heap.size, 1, none⟩ = some (.int .u64 (R : Nat)) := (hb2.cell (p := ⟨w.heap.size, 1, none⟩) l0).trans c0
    have l2 : w.heap.size < w2.heap.size := Nat.lt_of_lt_of_le l0 hb2.size
    clear hb2 c0 y0 y1 y2 y3 y4 l0 l1
    cases q with
    | false =>
      have er : r = false := by rw [← hr0]; rfl
      go_wp2
      go_ret
      exact ⟨by rw [er]; rfl, B2.out⟩
    | true =>
      go_wp2_with fail
      refine (H2.out w2).mono ?_
      rintro e w3 ⟨rfl, hb3⟩
      have B3 := Lib.hid (below_on B2.out hb3)
      clear hb3 c2
      have er : r = !y := by rw [← hr0]; rfl
      cases y
      all_goals
        go_wp2
        go_ret
        exact ⟨by rw [er]; rfl, B3.out⟩
theorem noted_any (s : Ep) (tn : Nat) (ti k a b c : Int) (ss : Bool) (ck : Ck) (w : World) (hs : LowE s) (hc : Low ck) (ht : tn < 3) :
    Calls Try.prog 106 #[EpV s, Ev tn ti k a b c ss, .int .u64 (enc WC ck : Nat)] w fun e w' => e = .returned (EpV (noteQ s (writesB k a b c ss) tn ck)) ∧ Below w.heap.size w w' := by
  obtain ⟨q, hq⟩ : ∃ q, writesB k a b c ss = q := ⟨_, rfl⟩
  obtain ⟨y, hy⟩ : ∃ y, leC s.read ck = y := ⟨_, rfl⟩
  have hN : noteQ s q tn ck = if q = true then ⟨epC ck tn, zeroC⟩ else if y = true then ⟨s.wrote, epC ck tn⟩ else ⟨s.wrote, joinC s.read (epC ck tn)⟩ := by unfold noteQ; rw [hy]
  have H1 := Lib.hid (fun v : World => epoch_any ck tn v ht hc)
  have H2 := Lib.hid (fun v : World => wwithin_any s.read ck v hs.r hc y (Lib.hid hy))
  have H3 := Lib.hid (fun v : World => ret_bool hq (iwrites_any k a b c ss v))
  have H4 := Lib.hid (fun v : World => wjoin_any s.read (epC ck tn) v hs.r (low_ep hc tn))
  rw [hq]
  have HN := Lib.hid hN
  clear hq hy hN
  show Calls Try.prog 106 #[.agg #[.int .u64 (enc WC s.wrote : Nat), .int .u64 (enc WC s.read : Nat)], Ev tn ti k a b c ss, .int .u64 (enc WC ck : Nat)] w fun e w' => e = .returned (.agg #[.int .u64 (enc WC (noteQ s q tn ck).wrote : Nat), .int .u64 (enc WC (noteQ s q tn ck).read : Nat)]) ∧ Below w.heap.size w w'
  obtain ⟨P, hP⟩ : ∃ P, enc WC (noteQ s q tn ck).wrote = P := ⟨_, rfl⟩
  obtain ⟨Q, hQ⟩ : ∃ Q, enc WC (noteQ s q tn ck).read = Q := ⟨_, rfl⟩
  rw [hP, hQ]
  rw [HN.out] at hP hQ
  generalize hE : enc WC (epC ck tn) = E at *
  generalize hJ : enc WC (joinC s.read (epC ck tn)) = J at *
  generalize hA : enc WC s.wrote = A at *
  generalize hR : enc WC s.read = R at *
  generalize enc WC ck = C at *
  have HP := Lib.hid hP
  have HQ := Lib.hid hQ
  have HE := Lib.hid hE
  have HJ := Lib.hid hJ
  have HA := Lib.hid hA
  clear hP hQ hE hJ hA hR
  obtain ⟨W, hW⟩ : ∃ W, W = ((w.alloc (.cells #[.int .u64 (A : Nat), .int .u64 (R : Nat)] 134)).alloc (.cells #[.int .i64 tn, .int .i64 ti, .int .i64 k, .int .i64 a, .int .i64 b, .int .i64 c, .bool ss] 81)).alloc (.cells #[.int .u64 0, .int .u64 0] 134) := ⟨_, rfl⟩
  have bW : Below w.heap.size w W := by rw [hW]; go_grown
  have k0 : Bk W w.heap.size 134 #[.int .u64 (A : Nat), .int .u64 (R : Nat)] := by rw [hW]; exact ((Bk.new w _ _).alloc _).alloc _
  have k1 : Bk W (w.heap.size + 1) 81 #[.int .i64 tn, .int .i64 ti, .int .i64 k, .int .i64 a, .int .i64 b, .int .i64 c, .bool ss] := by
    rw [hW]; have := (Bk.new (w.alloc (.cells #[.int .u64 (A : Nat), .int .u64 (R : Nat)] 134)) #[.int .i64 tn, .int .i64 ti, .int .i64 k, .int .i64 a, .int .i64 b, .int .i64 c, .bool ss] 81).alloc (.cells #[.int .u64 0, .int .u64 0] 134)
    rwa [World.size_alloc] at this
  have k2 : Bk W (w.heap.size + 1 + 1) 134 #[.int .u64 0, .int .u64 0] := by
    rw [hW]; have := Bk.new ((w.alloc (.cells #[.int .u64 (A : Nat), .int .u64 (R : Nat)] 134)).alloc (.cells #[.int .i64 tn, .int .i64 ti, .int .i64 k, .int .i64 a, .int .i64 b, .int .i64 c, .bool ss] 81)) #[.int .u64 0, .int .u64 0] 134
    rwa [World.size_alloc, World.size_alloc] at this
  have K0 := Lib.hid k0
  have K1 := Lib.hid k1
  have K2 := Lib.hid k2
  have BW := Lib.hid bW
  have HW := Lib.hid hW
  have z0 : W.heap.size = w.heap.size + 1 + 1 + 1 := by rw [hW]; simp
  have z0a := Nat.le_of_eq z0
  have z0b := Nat.le_of_eq z0.symm
  have cT : W.cell? ⟨w.heap.size + 1, 0, none⟩ = some (.int .i64 tn) := k1.cell 0
  have lT := k1.lt
  clear hW bW k0 k1 k2 z0
  go_enter Try.func106, Try.ntmps106
  go_wp2_with fail
  rw [← HW.out]
  go_wp2_with fail
  refine (H1.out W).mono ?_
  rintro e w1 ⟨rfl, hb1⟩
  have X1 := Lib.hid hb1
  have kk := K1.out.below hb1 (by omega)
  have l1 := kk.lt
  have y0 : w1.cell? ⟨w.heap.size + 1, 2, none⟩ = some (.int .i64 k) := kk.cell 2
  have y1 : w1.cell? ⟨w.heap.size + 1, 3, none⟩ = some (.int .i64 a) := kk.cell 3
  have y2 : w1.cell? ⟨w.heap.size + 1, 4, none⟩ = some (.int .i64 b) := kk.cell 4
  have y3 : w1.cell? ⟨w.heap.size + 1, 5, none⟩ = some (.int .i64 c) := kk.cell 5
  have y4 : w1.cell? ⟨w.heap.size + 1, 6, none⟩ = some (.bool ss) := kk.cell 6
  clear hb1 kk cT lT
  go_wp2_with fail
  refine (H3.out w1).mono ?_
  rintro e w2 ⟨rfl, hb2⟩
  have X2 := Lib.hid (below_on X1.out hb2)
  clear hb2 y0 y1 y2 y3 y4 l1
  have store := Lib.hid (show ∀ (v : World) (P Q : Nat), Below W.heap.size W v → (Below w.heap.size w ((v.setCell ⟨w.heap.size + 1 + 1, 0, none⟩ (.int .u64 (P : Nat))).setCell ⟨w.heap.size + 1 + 1, 1, none⟩ (.int .u64 (Q : Nat)))) ∧ Bk ((v.setCell ⟨w.heap.size + 1 + 1, 0, none⟩ (.int .u64 (P : Nat))).setCell ⟨w.heap.size + 1 + 1, 1, none⟩ (.int .u64 (Q : Nat))) (w.heap.size + 1 + 1) 134 #[.int .u64 (P : Nat), .int .u64 (Q : Nat)] from fun v P Q hb => ⟨((below_on BW.out hb).setCell (p := ⟨w.heap.size + 1 + 1, 0, none⟩) (by show w.heap.size ≤ w.heap.size + 1 + 1; omega) _).setCell (p := ⟨w.heap.size + 1 + 1, 1, none⟩) (by show w.heap.size ≤ w.heap.size + 1 + 1; omega) _, by
    have a1 := (K2.out.below hb (by omega)).set 0 (.int .u64 (P : Nat))
    have a2 := a1.set 1 (.int .u64 (Q : Nat))
    simpa using a2⟩)
  cases q with
  | true =>
    have eP : P = E := by rw [← HP.out, if_pos rfl]; exact HE.out
    have eQ : Q = 0 := by rw [← HQ.out, if_pos rfl]; rfl
    have r2 := K2.out.below X2.out (by omega)
    have f0 := r2.free 0
    have f1 := r2.free 1
    have g0 : w2.cell? ⟨w.heap.size + 1 + 1, 0, none⟩ = some (.int .u64 0) := r2.cell 0
    have g1 : w2.cell? ⟨w.heap.size + 1 + 1, 1, none⟩ = some (.int .u64 0) := r2.cell 1
    have lr := r2.lt
    clear r2
    obtain ⟨hbF, hkF⟩ := store.out w2 E 0 X2.out
    have BF := Lib.hid hbF
    have d0 := hkF.cell 0
    have d1 := hkF.cell 1
    simp only [List.getElem?_toArray, List.getElem?_cons_zero, List.getElem?_cons_succ] at d0 d1
    clear hbF hkF
    go_wp2
    obtain ⟨F, hF⟩ : ∃ F, F = (w2.setCell ⟨w.heap.size + 1 + 1, 0, none⟩ (.int .u64 (E : Nat))).setCell ⟨w.heap.size + 1 + 1, 1, none⟩ (.int .u64 0) := ⟨_, rfl⟩
    have d0 : F.cell? ⟨w.heap.size + 1 + 1, 0, none⟩ = some (.int .u64 (E : Nat)) := by rw [hF]; exact d0
    have d1 : F.cell? ⟨w.heap.size + 1 + 1, 1, none⟩ = some (.int .u64 0) := by rw [hF]; exact d1
    have BF := Lib.hid (show Below w.heap.size w F by rw [hF]; exact BF.out)
    rw [← hF]
    clear hF
    refine bodyPost_ret (v := .agg #[.int .u64 (E : Nat), .int .u64 (0 : Nat)]) (by simp [results, Try.results106, d0, d1, go_sem]) rfl ?_
    exact ⟨by rw [eP, eQ], BF.out⟩
  | false =>
    have x0 : w2.cell? ⟨w.heap.size, 1, none⟩ = some (.int .u64 (R : Nat)) := (K0.out.below X2.out (by omega)).cell 1
    have x1 := (K0.out.below X2.out (by omega)).lt
    go_wp2_with fail
    refine (H2.out w2).mono ?_
    rintro e w3 ⟨rfl, hb3⟩
    have X3 := Lib.hid (below_on X2.out hb3)
    clear hb3 x0 x1
    cases y with
    | true =>
      have eP : P = A := by rw [← HP.out, if_neg (by decide), if_pos rfl]; exact HA.out
      have eQ : Q = E := by rw [← HQ.out, if_neg (by decide), if_pos rfl]; exact HE.out
      have x0 : w3.cell? ⟨w.heap.size, 0, none⟩ = some (.int .u64 (A : Nat)) := (K0.out.below X3.out (by omega)).cell 0
      have x1 := (K0.out.below X3.out (by omega)).lt
      have r2 := K2.out.below X3.out (by omega)
      have f0 := r2.free 0
      have f1 := r2.free 1
      have g0 : w3.cell? ⟨w.heap.size + 1 + 1, 0, none⟩ = some (.int .u64 0) := r2.cell 0
      have g1 : w3.cell? ⟨w.heap.size + 1 + 1, 1, none⟩ = some (.int .u64 0) := r2.cell 1
      have lr := r2.lt
      clear r2
      obtain ⟨hbF, hkF⟩ := store.out w3 A E X3.out
      have BF := Lib.hid hbF
      have d0 := hkF.cell 0
      have d1 := hkF.cell 1
      simp only [List.getElem?_toArray, List.getElem?_cons_zero, List.getElem?_cons_succ] at d0 d1
      clear hbF hkF
      go_wp2
      obtain ⟨F, hF⟩ : ∃ F, F = (w3.setCell ⟨w.heap.size + 1 + 1, 0, none⟩ (.int .u64 (A : Nat))).setCell ⟨w.heap.size + 1 + 1, 1, none⟩ (.int .u64 (E : Nat)) := ⟨_, rfl⟩
      rw [← hF] at d0 d1 BF
      rw [← hF]
      clear hF
      refine bodyPost_ret (v := .agg #[.int .u64 (A : Nat), .int .u64 (E : Nat)]) (by simp [results, Try.results106, d0, d1, go_sem]) rfl ?_
      exact ⟨by rw [eP, eQ], BF.out⟩
    | false =>
      have eP : P = A := by rw [← HP.out, if_neg (by decide), if_neg (by decide)]; exact HA.out
      have eQ : Q = J := by rw [← HQ.out, if_neg (by decide), if_neg (by decide)]; exact HJ.out
      have x0 : w3.cell? ⟨w.heap.size, 0, none⟩ = some (.int .u64 (A : Nat)) := (K0.out.below X3.out (by omega)).cell 0
      have x1 : w3.cell? ⟨w.heap.size, 1, none⟩ = some (.int .u64 (R : Nat)) := (K0.out.below X3.out (by omega)).cell 1
      have xl := (K0.out.below X3.out (by omega)).lt
      have AllS := Lib.hid (show ∀ w', Below w3.heap.size w3 w' → (w'.cell? ⟨w.heap.size, 0, none⟩ = some (.int .u64 (A : Nat)) ∧ w'.cell? ⟨w.heap.size, 1, none⟩ = some (.int .u64 (R : Nat))) from fun w' hb => ⟨(hb.cell (p := ⟨w.heap.size, 0, none⟩) xl).trans x0, (hb.cell (p := ⟨w.heap.size, 1, none⟩) xl).trans x1⟩)
      have AllF := Lib.hid (show ∀ v : World, Below w3.heap.size w3 v → ∀ r1 r2 : Value, (((v.setCell ⟨w.heap.size + 1 + 1, 0, none⟩ r1).setCell ⟨w.heap.size + 1 + 1, 1, none⟩ r2).cell? ⟨w.heap.size, 0, none⟩ = some (.int .u64 (A : Nat)) ∧ ((v.setCell ⟨w.heap.size + 1 + 1, 0, none⟩ r1).setCell ⟨w.heap.size + 1 + 1, 1, none⟩ r2).cell? ⟨w.heap.size, 1, none⟩ = some (.int .u64 (R : Nat))) from fun v hBv r1 r2 => ⟨(World.cell?_setCell_far _ _ _ _ (show w.heap.size + 1 + 1 ≠ w.heap.size by omega)).trans ((World.cell?_setCell_far _ _ _ _ (show w.heap.size + 1 + 1 ≠ w.heap.size by omega)).trans (AllS.out v hBv).1), (World.cell?_setCell_far _ _ _ _ (show w.heap.size + 1 + 1 ≠ w.heap.size by omega)).trans ((World.cell?_setCell_far _ _ _ _ (show w.heap.size + 1 + 1 ≠ w.heap.size by omega)).trans (AllS.out v hBv).2)⟩)
      go_wp2_with fail
      go_region_held3 (fun w' => w'.cell? ⟨w.heap.size, 0, none⟩ = some (.int .u64 (A : Nat)) ∧ w'.cell? ⟨w.heap.size, 1, none⟩ = some (.int .u64 (R : Nat))) (first | (with_reducible exact Fin.out) | (go_split_ands; refine AllS.out _ ?_; go_grown; done) | (refine AllS.out _ ?_; go_grown; done)) (first | (go_at_call 146; go_split_ands; refine (H4.out _).mono ?_; rintro e v ⟨rfl, hv⟩; have hBv : Below w3.heap.size w3 v := below_on (by go_grown) hv; have X4 := Lib.hid (below_on X3.out hBv); have r2 := K2.out.below X4.out (by omega); have f0 := r2.free 0; have f1 := r2.free 1; have g0 : v.cell? ⟨w.heap.size + 1 + 1, 0, none⟩ = some (.int .u64 0) := r2.cell 0; have g1 : v.cell? ⟨w.heap.size + 1 + 1, 1, none⟩ = some (.int .u64 0) := r2.cell 1; have lr := r2.lt; have Fin := Lib.hid (AllF.out v hBv (.int .u64 (A : Nat)) (.int .u64 (J : Nat))); clear r2 hv))
      try clear hHeld
      clear x0 x1 xl AllS AllF Fin hBv f0 f1 g0 g1 lr
      obtain ⟨hbF, hkF⟩ := store.out v A J X4.out
      have BF := Lib.hid hbF
      have d0 := hkF.cell 0
      have d1 := hkF.cell 1
      simp only [List.getElem?_toArray, List.getElem?_cons_zero, List.getElem?_cons_succ] at d0 d1
      clear hbF hkF
      go_wp2
      obtain ⟨F, hF⟩ : ∃ F, F = (v.setCell ⟨w.heap.size + 1 + 1, 0, none⟩ (.int .u64 (A : Nat))).setCell ⟨w.heap.size + 1 + 1, 1, none⟩ (.int .u64 (J : Nat)) := ⟨_, rfl⟩
      rw [← hF] at d0 d1 BF
      rw [← hF]
      clear hF
      refine bodyPost_ret (v := .agg #[.int .u64 (A : Nat), .int .u64 (J : Nat)]) (by simp [results, Try.results106, d0, d1, go_sem]) rfl ?_
      exact ⟨by rw [eP, eQ], BF.out⟩
end Go.Proofs.Ytidibnmlceccnaa
namespace Go.Proofs.Ytidibnmlceccnaa
open Go.RowKit Pl Go.BigFrame
set_option maxHeartbeats 8000000
set_option maxRecDepth 100000
set_option linter.unusedVariables false

def racZ (L : Pg) (xs : List Int) : Int := fstZ (raceK (evE L xs)) (evE L xs).length 0
structure EvG (L : Pg) (l : Evts) : Prop where
  few : l.length ≤ 9
  all : ∀ e ∈ l, (0 ≤ e.t ∧ e.t < 3) ∧ e.x.okb = true
theorem ev_g {L : Pg} {xs : List Int} : EvG L (evE L xs) := by
  cases h : evR L xs with
  | false => rw [evE_no h]; exact ⟨by simp, fun e he => by cases he⟩
  | true => have F := ev_f h; exact ⟨F.few, F.th⟩
theorem Try.info134 : (Try.prog.info? 134).map (fun i => (i.zero, i.size, i.bytes)) = some (some (.agg #[.int .u64 0, .int .u64 0]), 2, 16) := by kernel_rfl
def Sn (wr : World) (b : Nat) (s : Nat → Ep) : Prop := ∃ cs, Bk wr b 134 cs ∧ cs.size = 6 ∧ ∀ P, P < 3 → cs[P * 2]? = some (.int .u64 (enc WC (s P).wrote : Nat)) ∧ cs[P * 2 + 1]? = some (.int .u64 (enc WC (s P).read : Nat))
theorem Sn.below {w w' : World} {b : Nat} {s : Nat → Ep} (h : Sn w b s) (hb : Below w.heap.size w w') : Sn w' b s := by
  obtain ⟨cs, hbk, h1⟩ := h
  exact ⟨cs, hbk.below hb hbk.lt, h1⟩
theorem Sn.put {w : World} {b : Nat} {s : Nat → Ep} (h : Sn w b s) {P : Nat} (hP : P < 3) (q : Ep) : Sn ((w.setCell ⟨b, P * 2, none⟩ (.int .u64 (enc WC q.wrote : Nat))).setCell ⟨b, P * 2 + 1, none⟩ (.int .u64 (enc WC q.read : Nat))) b (fun Q => if Q = P then q else s Q) := by
  obtain ⟨cs, hbk, hs, hc⟩ := h
  refine ⟨_, (hbk.set (P * 2) _).set (P * 2 + 1) _, by simpa using hs, fun Q hQ => ?_⟩
  by_cases e : Q = P
  · subst e
    dsimp only
    rw [if_pos rfl]
    constructor
    · rw [Array.getElem?_setIfInBounds_ne (by omega), Array.getElem?_setIfInBounds_self_of_lt (by omega)]
    · rw [Array.getElem?_setIfInBounds_self_of_lt (by rw [Array.size_setIfInBounds]; omega)]
  · dsimp only
    rw [if_neg e]
    obtain ⟨h1, h2⟩ := hc Q hQ
    constructor
    · rw [Array.getElem?_setIfInBounds_ne (by omega), Array.getElem?_setIfInBounds_ne (by omega)]; exact h1
    · rw [Array.getElem?_setIfInBounds_ne (by omega), Array.getElem?_setIfInBounds_ne (by omega)]; exact h2
theorem Sn.congr {w : World} {b : Nat} {s s' : Nat → Ep} (h : Sn w b s) (e : ∀ P, P < 3 → s P = s' P) : Sn w b s' := by
  obtain ⟨cs, hbk, hs, hc⟩ := h
  exact ⟨cs, hbk, hs, fun P hP => by rw [← e P hP]; exact hc P hP⟩
theorem place_r (k a b c : Int) (s : Bool) : placeZ k a b c s = -1 ∨ ∃ P : Nat, P < 3 ∧ placeZ k a b c s = (P : Int) := by
  obtain ⟨q, h, -⟩ := way k a b c s
  rw [h]
  unfold qP
  split
  · exact Or.inr ⟨q.val % 3, Nat.mod_lt _ (by omega), rfl⟩
  · exact Or.inl rfl
theorem fst_go {r : Nat → Bool} {n k : Nat} {z : Int} (hk : k < n) (h : fstZ r (n - k) k = z) : (r k = true → z = (k : Int)) ∧ (r k = false → fstZ r (n - (k + 1)) (k + 1) = z) := by
  rw [show n - k = (n - (k + 1)) + 1 by omega] at h
  unfold fstZ at h
  constructor
  · intro h1; rw [if_pos h1] at h; exact h.symm
  · intro h1; rw [if_neg (by rw [h1]; decide)] at h; exact h
theorem irace_any (h : PgH) (L : Pg) (k : IsH) (xs : List Int) (w : World) (B : Nat) (hP : PgR w B h L) (hV : IsR w B k xs) (hB : B ≤ w.heap.size) (SP : PgS L) (LS : IsS xs) (r : Int) (hr : Hid (racZ L xs = r)) :
    Calls Try.prog 63 #[PgV h L, IsV k xs] w fun e w' => e = .returned (.int .i64 r) ∧ Below w.heap.size w w' := by
  obtain ⟨W, hW⟩ : ∃ W, W = w.alloc (.cells #[.slice h.A L.length h.c] 32) := ⟨_, rfl⟩
  have bW : Below w.heap.size w W := by rw [hW]; go_grown
  have KW := Lib.hid (show Bk W w.heap.size 32 #[.slice h.A L.length h.c] by rw [hW]; exact Bk.new _ _ _)
  have RW := Lib.hid (hP.below bW hB)
  have VW := Lib.hid (hV.below bW hB)
  have BW := Lib.hid bW
  have hBW : B ≤ W.heap.size := Nat.le_trans hB bW.size
  have HW := Lib.hid hW
  have FF := Lib.hid (ev_g (L := L) (xs := xs))
  have hev := ievs_any h L k xs W B RW.out VW.out hBW SP LS
  have hr0 := hr.out
  clear hr
  unfold racZ at hr0
  generalize evE L xs = l at hev FF hr0
  generalize evR L xs = ok at hev
  have HR := Lib.hid hr0
  clear hW bW hP hV hr0
  obtain ⟨i0, hi, hz0, hz1, hz2⟩ := info_parts Try.info134
  have hmk := make_any Try.underlying130 hi hz0 3 (by rw [hz2]; omega) (by omega)
  rw [hz1, show ((3 : Nat) : Int) = 3 from rfl, show 3 * 2 = 6 from rfl] at hmk
  clear hz0 hz1 hz2 hi
  have cP := KW.out.cell 0
  have lP := KW.out.lt
  go_enter Try.func63, Try.ntmps63
  go_wp2_with fail
  rw [← HW.out]
  go_wp2_with fail
  refine hev.mono ?_
  clear hev cP lP
  rintro e w1 ⟨⟨A, c0⟩, he, hb1, hz1, ho1⟩
  have he : e = .returned (.tuple #[.slice A l.length c0, .bool ok]) := he
  subst he
  have B1 := Lib.hid (below_on BW.out hb1)
  have O1 := Lib.hid (show EvsR w1 w1.heap.size ⟨A, c0⟩ l from ho1.rd)
  clear hb1 ho1
  have h9 := FF.out.few
  go_wp2_with fail
  refine (cwords_any ⟨A, c0⟩ l w1 w1.heap.size O1.out (Nat.le_refl _) h9 FF.out.all).mono ?_
  rintro e w2 ⟨rfl, hq2⟩
  have B2 := Lib.hid (below_on B1.out hq2.1)
  have X2 := Lib.hid hq2.1
  have CQ := Lib.hid (show ∀ j, j < l.length → w2.cell? ⟨w1.heap.size, j, none⟩ = some (.int .u64 (enc WC (ckK l j) : Nat)) from fun j hj => by
    have := (hq2.cellW hj).1
    unfold wK at this
    rwa [if_pos hj] at this)
  have l12 : w1.heap.size < w2.heap.size := by have := (hq2.cellS (p := 0) (by omega)).2.2; omega
  have start := Lib.hid (show Sn (w2.alloc (.cells (madeCells #[.int .u64 0, .int .u64 0] 6) 134)) w2.heap.size (seenK l 0) from
    ⟨_, Bk.new _ _ _, size_madeCells _ _, fun P hP => by
      have e0 : enc WC zeroC = 0 := rfl
      have e1 : seenK l 0 P = ⟨zeroC, zeroC⟩ := rfl
      rw [e1, e0]
      have : P = 0 ∨ P = 1 ∨ P = 2 := by omega
      rcases this with rfl | rfl | rfl <;> (constructor <;> simp [madeCells])⟩)
  have BS := Lib.hid (show Below w2.heap.size w2 (w2.alloc (.cells (madeCells #[.int .u64 0, .int .u64 0] 6) 134)) from (Below.refl _ _).alloc (Nat.le_refl _) _)
  clear hq2
  go_wp2
  go_loopw [27] (fun i wr => ∃ k : Nat, k ≤ l.length ∧ i = .int .i64 k ∧ Below w2.heap.size w2 wr ∧ Sn wr w2.heap.size (seenK l k) ∧ Hid (fstZ (raceK l) (l.length - k) k = r)) (fun i _ => l.length - (intOf i).toNat)
  case atStart => exact ⟨0, Nat.zero_le _, rfl, BS.out, start.out, by rw [Nat.sub_zero]; exact HR⟩
  case round =>
    obtain ⟨k, hk, rfl, hbel, hsn, hrest⟩ := hrel
    clear start hmk BS HR
    by_cases hlt : k < l.length
    · obtain ⟨hV1⟩ := O1.out
      have hV1 : Vs w1 w1.heap.size A (evs l) := hV1
      have z12 := X2.out.size
      have z2r := hbel.size
      have Xr := Lib.hid (below_on X2.out hbel)
      obtain ⟨b, off, x, rfl, hb, hx, -, hx0, hx1, hx2, hx3, hx4, hx5, hx6⟩ := (hV1.below Xr.out (Nat.le_refl _)).ev_ hlt
      have hbw : b < wr.heap.size := by omega
      have hi1 : (k : Int) < (l.length : Int) := by omega
      obtain ⟨⟨ht0, ht3⟩, hok⟩ := FF.out.all x (List.mem_of_getElem? hx)
      have hge := gE_at hx
      obtain ⟨hyes, hno⟩ := fst_go hlt hrest.out
      have hcw : wr.cell? ⟨w1.heap.size, k, none⟩ = some (.int .u64 (enc WC (ckK l k) : Nat)) := (hbel.cell (p := ⟨w1.heap.size, k, none⟩) l12).trans (CQ.out k hlt)
      have hseen : ∀ P : Nat, seenK l (k + 1) P = if plE x = (P : Int) then noteQ (seenK l k P) (wrE x) x.t.toNat (ckK l k) else seenK l k P := fun P => by
        show (if plE (gE l k) = (P : Int) then _ else _) = _
        rw [hge]
      have hrace : raceK l k = (decide (0 ≤ plE x) && raceQ (seenK l k (plE x).toNat) (wrE x) (ckK l k)) := by unfold raceK; rw [hge]
      obtain ⟨t, ti, q, a, bb, cc, ss⟩ := x
      have ht0 : 0 ≤ t := ht0
      have ht3 : t < 3 := ht3
      obtain ⟨tn, rfl⟩ : ∃ n : Nat, t = (n : Int) := ⟨t.toNat, by omega⟩
      simp only at hx0 hx1 hx2 hx3 hx4 hx5 hx6
      have ht : tn < 3 := by omega
      unfold plE wrE at hseen hrace
      simp only [Int.toNat_natCast] at hseen hrace
      obtain ⟨V, hV⟩ : ∃ V, V = wr.alloc (.cells #[.int .i64 tn, .int .i64 ti, .int .i64 q, .int .i64 a, .int .i64 bb, .int .i64 cc, .bool ss] 81) := ⟨_, rfl⟩
      have bV : Below wr.heap.size wr V := by rw [hV]; go_grown
      have hbo : Bk V wr.heap.size 81 #[.int .i64 tn, .int .i64 ti, .int .i64 q, .int .i64 a, .int .i64 bb, .int .i64 cc, .bool ss] := by rw [hV]; exact Bk.new _ _ _
      have HPl := Lib.hid (fun v : World => iplace_any q a bb cc ss v)
      have y2 : V.cell? ⟨wr.heap.size, 2, none⟩ = some (.int .i64 q) := hbo.cell 2
      have y3 : V.cell? ⟨wr.heap.size, 3, none⟩ = some (.int .i64 a) := hbo.cell 3
      have y4 : V.cell? ⟨wr.heap.size, 4, none⟩ = some (.int .i64 bb) := hbo.cell 4
      have y5 : V.cell? ⟨wr.heap.size, 5, none⟩ = some (.int .i64 cc) := hbo.cell 5
      have y6 : V.cell? ⟨wr.heap.size, 6, none⟩ = some (.bool ss) := hbo.cell 6
      have lb := hbo.lt
      have Hseen := Lib.hid hseen
      have Hrace := Lib.hid hrace
      have Hyes := Lib.hid hyes
      have Hno := Lib.hid hno
      have HV := Lib.hid hV
      have HSn := Lib.hid (hsn.below bV)
      have HBo := Lib.hid hbo
      have HB := Lib.hid (below_on hbel bV)
      have Hcw := Lib.hid ((bV.cell (p := ⟨w1.heap.size, k, none⟩) (show w1.heap.size < wr.heap.size by omega)).trans hcw)
      have hsl : w2.heap.size < V.heap.size := by obtain ⟨cs, h1, _⟩ := HSn.out; exact h1.lt
      have hpr := place_r q a bb cc ss
      clear hV bV hbo hsn hbel hcw hseen hrace hyes hno hx hok hge hrest
      generalize hpl : placeZ q a bb cc ss = pl at *
      have Hpl := Lib.hid hpl
      clear hpl
      go_wp2_with fail
      rw [← HV.out]
      clear hx0 hx1 hx2 hx3 hx4 hx5 hx6
      refine (HPl.out V).mono ?_
      rintro e v1 ⟨rfl, hb1⟩
      have K1 := Lib.hid (HBo.out.below hb1 HBo.out.lt)
      have S1 := Lib.hid (HSn.out.below hb1)
      have E1 := Lib.hid (below_on HB.out hb1)
      have zv := hb1.size
      have C1 := Lib.hid ((hb1.cell (p := ⟨w1.heap.size, k, none⟩) (show w1.heap.size < V.heap.size by omega)).trans Hcw.out)
      clear y2 y3 y4 y5 y6 HSn HB Hcw HBo hb1
      rcases hpr with rfl | ⟨P, hP3, rfl⟩
      · have e1 : raceK l k = false := by rw [Hrace.out]; rfl
        have S2 := Lib.hid (S1.out.congr (fun P hP => by rw [Hseen.out, if_neg (by omega)]) : Sn v1 w2.heap.size (seenK l (k + 1)))
        have N1 := Lib.hid (Hno.out e1)
        go_wp2
        go_roundw
        case rel => exact ⟨k + 1, by omega, by go_num, E1.out, S2.out, N1⟩
        case measure => simp [intOf]; omega
      · have e9 : ((P : Int) == -1) = false := by simp
        have iP : (P : Int) < 3 := by omega
        have hr1 : raceK l k = raceQ (seenK l k P) (writesB q a bb cc ss) (ckK l k) := by
          rw [Hrace.out, decide_eq_true (show (0 : Int) ≤ (P : Int) by omega), Bool.true_and, Int.toNat_natCast]
        obtain ⟨r1, hr1'⟩ : ∃ r1, raceK l k = r1 := ⟨_, rfl⟩
        rw [hr1'] at hr1
        have HR1 := Lib.hid hr1.symm
        have LE := Lib.hid (low_seen (l := l) k (by omega) h9 P)
        have LC := Lib.hid (ck_low (l := l) (k := k) (by omega))
        have HNt := Lib.hid (fun v : World => noted_any (seenK l k P) tn ti q a bb cc ss (ckK l k) v LE.out LC.out ht)
        have HWi := Lib.hid (fun v : World => rwith_any (seenK l k P) q a bb cc ss (ckK l k) v LE.out LC.out r1 HR1)
        have hP2 : (P : Int) * 2 = ((P * 2 : Nat) : Int) := by omega
        obtain ⟨cs, hbk, hs6, hcc⟩ := S1.out
        have sw := (hbk.cell (P * 2)).trans (hcc P hP3).1
        have sr := (hbk.cell (P * 2 + 1)).trans (hcc P hP3).2
        have sl := hbk.lt
        have hol := K1.out.lt
        have c1 := C1.out
        have lw : w1.heap.size < v1.heap.size := by omega
        have gS0 := Ws.same (bs := []) sl sw
        have gS1 := Ws.same (bs := []) sl sr
        have gW := Ws.same (bs := []) lw c1
        have gx0 := Ws.same (bs := []) hol (show v1.cell? ⟨wr.heap.size, 0, none⟩ = some (.int .i64 tn) from K1.out.cell 0)
        have gx1 := Ws.same (bs := []) hol (show v1.cell? ⟨wr.heap.size, 1, none⟩ = some (.int .i64 ti) from K1.out.cell 1)
        have gx2 := Ws.same (bs := []) hol (show v1.cell? ⟨wr.heap.size, 2, none⟩ = some (.int .i64 q) from K1.out.cell 2)
        have gx3 := Ws.same (bs := []) hol (show v1.cell? ⟨wr.heap.size, 3, none⟩ = some (.int .i64 a) from K1.out.cell 3)
        have gx4 := Ws.same (bs := []) hol (show v1.cell? ⟨wr.heap.size, 4, none⟩ = some (.int .i64 bb) from K1.out.cell 4)
        have gx5 := Ws.same (bs := []) hol (show v1.cell? ⟨wr.heap.size, 5, none⟩ = some (.int .i64 cc) from K1.out.cell 5)
        have gx6 := Ws.same (bs := []) hol (show v1.cell? ⟨wr.heap.size, 6, none⟩ = some (.bool ss) from K1.out.cell 6)
        have hS := fr_none v1
        haveI hne := Nonempty.intro (Ws.mk _ hS)
        have HS := Lib.hid hS
        clear hS hbk hs6 hcc sw sr c1 hr1 hr1'
        go_wp2_with fail
        refine region_in (by kernel_rfl) HS.out.drew ?_
        repeat (go_big_quiet_step ((go_at_call 105; exact call_in (HWi.out _))))
        refine wpQuiet_nil ?_
        rintro v4 ⟨⟨wq, hw3⟩, rfl⟩
        have b4 := hw3.below
        clear gS0 gS1 gW gx0 gx1 gx2 gx3 gx4 gx5 gx6 hw3 hne HS
        have K4 := Lib.hid (K1.out.below b4 K1.out.lt)
        have S4 := Lib.hid (S1.out.below b4)
        have E4 := Lib.hid (below_on E1.out b4)
        have C4 := Lib.hid ((b4.cell (p := ⟨w1.heap.size, k, none⟩) lw).trans C1.out)
        have z4 := b4.size
        clear b4 K1 S1 E1 C1
        cases r1 with
        | true =>
          have er : r = (k : Int) := Hyes.out (by rw [Hrace.out, decide_eq_true (show (0 : Int) ≤ (P : Int) by omega), Bool.true_and, Int.toNat_natCast]; exact HR1.out)
          have HB4 := Lib.hid (below_on B2.out E4.out)
          go_wp2
          go_ret
          exact ⟨by rw [er]; rfl, HB4.out⟩
        | false =>
          obtain ⟨cs, hbk, hs6, hcc⟩ := S4.out
          have sw := (hbk.cell (P * 2)).trans (hcc P hP3).1
          have sr := (hbk.cell (P * 2 + 1)).trans (hcc P hP3).2
          have sl := hbk.lt
          have cw := C4.out
          have x0 : v4.cell? ⟨wr.heap.size, 0, none⟩ = some (.int .i64 tn) := K4.out.cell 0
          have x1 : v4.cell? ⟨wr.heap.size, 1, none⟩ = some (.int .i64 ti) := K4.out.cell 1
          have x2 : v4.cell? ⟨wr.heap.size, 2, none⟩ = some (.int .i64 q) := K4.out.cell 2
          have x3 : v4.cell? ⟨wr.heap.size, 3, none⟩ = some (.int .i64 a) := K4.out.cell 3
          have x4 : v4.cell? ⟨wr.heap.size, 4, none⟩ = some (.int .i64 bb) := K4.out.cell 4
          have x5 : v4.cell? ⟨wr.heap.size, 5, none⟩ = some (.int .i64 cc) := K4.out.cell 5
          have x6 : v4.cell? ⟨wr.heap.size, 6, none⟩ = some (.bool ss) := K4.out.cell 6
          have xl := K4.out.lt
          have lw4 : w1.heap.size < v4.heap.size := by omega
          have HBk := Lib.hid hbk
          clear hbk hs6 hcc
          go_upto_region 11 with (fail)
          go_region_law ((go_simp; go_at_call 106; refine (HNt.out _).mono ?_; rintro e v5 ⟨rfl, hv5⟩; have hB5 : Below v4.heap.size v4 v5 := below_on (by go_grown) hv5; have HB5 := Lib.hid hB5; have kb := HBk.out.below hB5 HBk.out.lt; have f0 := kb.free (P * 2); have f1 := kb.free (P * 2 + 1); have s0 := (hB5.cell (p := ⟨w2.heap.size, P * 2, none⟩) sl).trans sw; have s1 := (hB5.cell (p := ⟨w2.heap.size, P * 2 + 1, none⟩) sl).trans sr; have l5 := kb.lt; clear kb hv5))
          all_goals
            clear sw sr cw x0 x1 x2 x3 x4 x5 x6 f0 f1 s0 s1
            have S5 := Lib.hid ((S4.out.below HB5.out).put hP3 (noteQ (seenK l k P) (writesB q a bb cc ss) tn (ckK l k)))
            have S6 := Lib.hid (S5.out.congr (s' := seenK l (k + 1)) (fun Q hQ => by
              rw [Hseen.out]
              by_cases e : Q = P
              · rw [if_pos e, if_pos (by omega), e]
              · rw [if_neg e, if_neg (by omega)]))
            have E6 := Lib.hid (show Below w2.heap.size w2 ((v5.setCell ⟨w2.heap.size, P * 2, none⟩ (.int .u64 (enc WC (noteQ (seenK l k P) (writesB q a bb cc ss) tn (ckK l k)).wrote : Nat))).setCell ⟨w2.heap.size, P * 2 + 1, none⟩ (.int .u64 (enc WC (noteQ (seenK l k P) (writesB q a bb cc ss) tn (ckK l k)).read : Nat))) from ((below_on E4.out HB5.out).setCell (p := ⟨w2.heap.size, P * 2, none⟩) (Nat.le_refl _) _).setCell (p := ⟨w2.heap.size, P * 2 + 1, none⟩) (Nat.le_refl _) _)
            have N1 := Lib.hid (Hno.out (by rw [Hrace.out, decide_eq_true (show (0 : Int) ≤ (P : Int) by omega), Bool.true_and, Int.toNat_natCast]; exact HR1.out))
            clear S5
            go_wp2
            go_roundw
            case rel => exact ⟨k + 1, by omega, by go_num, E6.out, S6.out, N1⟩
            case measure => simp [intOf]; omega
    · have hkk : k = l.length := by omega
      subst hkk
      have e0 : r = -1 := by have := hrest.out; rw [Nat.sub_self] at this; exact this.symm
      have HB := Lib.hid (below_on B2.out hbel)
      clear hbel hsn hrest
      go_wp2
      go_ret
      exact ⟨by rw [e0]; rfl, HB.out⟩
end Go.Proofs.Ytidibnmlceccnaa
