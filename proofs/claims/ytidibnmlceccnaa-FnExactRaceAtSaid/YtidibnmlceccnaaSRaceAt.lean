/-
  What the reference model's RaceAt comes to.
-/
import Derived.Test.YtidibnmlceccnaaOrdS
import Derived.Test.YtidibnmlceccnaaOpenIs
import Derived.Test.YtidibnmlceccnaaSClk
import Derived.Test.YtidibnmlceccnaaIRaceAt
namespace Go.Proofs.Ytidibnmlceccnaa
open Go.RowKit Pl
set_option maxHeartbeats 1000000
set_option linter.unusedVariables false

def leL : List Int → List Int → Bool
  | x :: xs, y :: ys => !decide (y < x) && leL xs ys
  | _, _ => true
def withL (xs ys : List Int) : Bool := xs.length == ys.length && leL xs ys
theorem leL_nil (ys : List Int) : leL [] ys = true := by cases ys <;> rfl
theorem leL_no {x y : Int} {xs ys : List Int} {r : Bool} (hxy : y < x) (h : leL (x :: xs) (y :: ys) = r) : r = false := by
  rw [← h, leL, decide_eq_true hxy]; rfl
theorem leL_on {x y : Int} {xs ys : List Int} {r : Bool} (hxy : ¬ y < x) (h : leL (x :: xs) (y :: ys) = r) : leL xs ys = r := by
  rw [← h, leL, decide_eq_false hxy]; rfl

theorem iwithin_any (k1 : IsH) (xs : List Int) (k2 : IsH) (ys : List Int) (w : World) (B : Nat) (h1 : IsR w B k1 xs) (h2 : IsR w B k2 ys) (hB : B ≤ w.heap.size) (S1 : IsS xs) (S2 : IsS ys) (r : Bool) (hr : Hid (withL xs ys = r)) :
    Calls Try.prog 51 #[IsV k1 xs, IsV k2 ys] w fun e w' => e = .returned (.bool r) ∧ Below w.heap.size w w' := by
  obtain ⟨A1, c1⟩ := k1
  obtain ⟨A2, c2⟩ := k2
  show Calls Try.prog 51 #[.slice A1 xs.length c1, .slice A2 ys.length c2] w _
  obtain ⟨h1⟩ := h1
  obtain ⟨h2⟩ := h2
  have h1 : Vs w B A1 (ints xs) := h1
  have h2 : Vs w B A2 (ints ys) := h2
  have hm1 := S1.l0
  have hm2 := S2.l0
  clear S1 S2
  have hr0 := hr.out
  clear hr
  unfold withL at hr0
  by_cases hlen : xs.length = ys.length
  · have hr1 : leL xs ys = r := by rw [← hr0]; simp [hlen]
    have hne : ((xs.length : Int) != (ys.length : Int)) = false := by simp; omega
    have Hr := Lib.hid hr1
    have hle1 := Nat.le_of_eq hlen
    have hle2 := Nat.le_of_eq hlen.symm
    clear hr0 hr1 hlen
    go_enter Try.func51, Try.ntmps51
    go_wp2
    go_loopw [13] (fun i wr => ∃ k : Nat, k ≤ xs.length ∧ i = .int .i64 k ∧ Below w.heap.size w wr ∧ (∀ b o, wr.cell? ⟨b, o, none⟩ = w.cell? ⟨b, o, none⟩) ∧ Hid (leL (xs.drop k) (ys.drop k) = r)) (fun i _ => xs.length - (intOf i).toNat)
    case atStart => exact ⟨0, Nat.zero_le _, rfl, Below.refl _ _, fun _ _ => rfl, by simpa using Hr⟩
    case round =>
      obtain ⟨k, hk, rfl, hbel, hsame, hrest⟩ := hrel
      clear Hr
      by_cases hlt : k < xs.length
      · obtain ⟨b1, off1, x, rfl, hb1, -, hd1, hx0⟩ := (h1.keep (Nat.le_refl _) (fun b o _ => hsame b o)).int_ hlt
        obtain ⟨b2, off2, y, rfl, hb2, -, hd2, hy0⟩ := (h2.keep (Nat.le_refl _) (fun b o _ => hsame b o)).int_ (show k < ys.length by omega)
        have hi1 : (k : Int) < (xs.length : Int) := by omega
        have hi2 : (k : Int) < (ys.length : Int) := by omega
        have Hsame := Lib.hid hsame
        have hr2 := hrest.out
        rw [hd1, hd2] at hr2
        clear hd1 hd2 hsame h1 h2 hrest
        by_cases hyx : y < x
        · have hres := Lib.hid (leL_no hyx hr2)
          clear hr2
          go_wp2
          go_quiet (fail)
          go_wp2
          go_ret
          exact ⟨by rw [hres.out]; rfl, below_drewN hbel _⟩
        · have hres := Lib.hid (leL_on hyx hr2)
          clear hr2
          go_wp2
          go_quiet (fail)
          go_wp2
          go_roundw
          case rel => exact ⟨k + 1, by omega, by go_num, below_drewN hbel _, fun b o => Hsame.out b o, hres⟩
          case measure => simp [intOf]; omega
      · have hkm : k = xs.length := by omega
        subst hkm
        have hlast : Hid (r = true) := Lib.hid (by
          have := hrest.out
          rw [List.drop_length, leL_nil] at this; exact this.symm)
        clear hrest
        go_wp2
        go_ret
        exact ⟨by rw [hlast.out]; rfl, hbel⟩
  · have hr1 : r = false := by rw [← hr0]; simp [hlen]
    have hne : ((xs.length : Int) != (ys.length : Int)) = true := by simp; omega
    have Hr := Lib.hid hr1
    clear hr0 hr1
    go_enter Try.func51, Try.ntmps51
    go_wp2
    go_ret
    exact ⟨by rw [Hr.out]; rfl, Below.refl _ _⟩
theorem swithin_any (k1 : IsH) (xs : List Int) (k2 : IsH) (ys : List Int) (w : World) (B : Nat) (h1 : IsR w B k1 xs) (h2 : IsR w B k2 ys) (hB : B ≤ w.heap.size) (S1 : IsS xs) (S2 : IsS ys) (r : Bool) (hr : Hid (withL xs ys = r)) :
    Calls Try.prog 50 #[IsV k1 xs, IsV k2 ys] w fun e w' => e = .returned (.bool r) ∧ Below w.heap.size w w' := by
  obtain ⟨A1, c1⟩ := k1
  obtain ⟨A2, c2⟩ := k2
  show Calls Try.prog 50 #[.slice A1 xs.length c1, .slice A2 ys.length c2] w _
  obtain ⟨h1⟩ := h1
  obtain ⟨h2⟩ := h2
  have h1 : Vs w B A1 (ints xs) := h1
  have h2 : Vs w B A2 (ints ys) := h2
  have hm1 := S1.l0
  have hm2 := S2.l0
  clear S1 S2
  have hr0 := hr.out
  clear hr
  unfold withL at hr0
  by_cases hlen : xs.length = ys.length
  · have hr1 : leL xs ys = r := by rw [← hr0]; simp [hlen]
    have hne : ((xs.length : Int) != (ys.length : Int)) = false := by simp; omega
    have Hr := Lib.hid hr1
    have hle1 := Nat.le_of_eq hlen
    have hle2 := Nat.le_of_eq hlen.symm
    clear hr0 hr1 hlen
    go_enter Try.func50, Try.ntmps50
    go_wp2
    go_loopw [5] (fun i wr => ∃ k : Nat, k ≤ xs.length ∧ i = .int .i64 k ∧ Below w.heap.size w wr ∧ (∀ b o, wr.cell? ⟨b, o, none⟩ = w.cell? ⟨b, o, none⟩) ∧ Hid (leL (xs.drop k) (ys.drop k) = r)) (fun i _ => xs.length - (intOf i).toNat)
    case atStart => exact ⟨0, Nat.zero_le _, rfl, Below.refl _ _, fun _ _ => rfl, by simpa using Hr⟩
    case round =>
      obtain ⟨k, hk, rfl, hbel, hsame, hrest⟩ := hrel
      clear Hr
      by_cases hlt : k < xs.length
      · obtain ⟨b1, off1, x, rfl, hb1, -, hd1, hx0⟩ := (h1.keep (Nat.le_refl _) (fun b o _ => hsame b o)).int_ hlt
        obtain ⟨b2, off2, y, rfl, hb2, -, hd2, hy0⟩ := (h2.keep (Nat.le_refl _) (fun b o _ => hsame b o)).int_ (show k < ys.length by omega)
        have hi1 : (k : Int) < (xs.length : Int) := by omega
        have hi2 : (k : Int) < (ys.length : Int) := by omega
        have Hsame := Lib.hid hsame
        have hr2 := hrest.out
        rw [hd1, hd2] at hr2
        clear hd1 hd2 hsame h1 h2 hrest
        by_cases hyx : y < x
        · have hres := Lib.hid (leL_no hyx hr2)
          clear hr2
          go_wp2
          go_quiet (fail)
          go_wp2
          go_ret
          exact ⟨by rw [hres.out]; rfl, below_drewN hbel _⟩
        · have hres := Lib.hid (leL_on hyx hr2)
          clear hr2
          go_wp2
          go_quiet (fail)
          go_wp2
          go_roundw
          case rel => exact ⟨k + 1, by omega, by go_num, below_drewN hbel _, fun b o => Hsame.out b o, hres⟩
          case measure => simp [intOf]; omega
      · have hkm : k = xs.length := by omega
        subst hkm
        have hlast : Hid (r = true) := Lib.hid (by
          have := hrest.out
          rw [List.drop_length, leL_nil] at this; exact this.symm)
        clear hrest
        go_wp2
        go_ret
        exact ⟨by rw [hlast.out]; rfl, hbel⟩
  · have hr1 : r = false := by rw [← hr0]; simp [hlen]
    have hne : ((xs.length : Int) != (ys.length : Int)) = true := by simp; omega
    have Hr := Lib.hid hr1
    clear hr0 hr1
    go_enter Try.func50, Try.ntmps50
    go_wp2
    go_ret
    exact ⟨by rw [Hr.out]; rfl, Below.refl _ _⟩
end Go.Proofs.Ytidibnmlceccnaa
namespace Go.Proofs.Ytidibnmlceccnaa
open Go.RowKit Pl Go.BigFrame
set_option maxHeartbeats 8000000
set_option maxRecDepth 100000
set_option linter.unusedVariables false

/-- A clock has no number for threads that there are not. -/
def ZerC (n : Nat) (c : Ck) : Prop := ∀ p, n ≤ p → c p = 0
theorem zer_now {n : Nat} {S : Nat → Ck} {e : Evt} (ht : e.t.toNat < n) (h : ∀ q, ZerC n (S q)) : ZerC n (nowC S e) := fun p hp => by
  rw [now_at, if_neg (by omega)]
  have a := h e.t.toNat p hp
  have b := h (metN e) p hp
  omega
theorem zer_fold {n : Nat} : ∀ (l : Evts) {S : Nat → Ck}, (∀ e ∈ l, e.t.toNat < n) → (∀ q, ZerC n (S q)) → ∀ q, ZerC n (l.foldl nextC S q) := by
  intro l
  induction l with
  | nil => intro S _ h; exact h
  | cons e r ih =>
    intro S hl h
    rw [List.foldl_cons]
    refine ih (fun x hx => hl x (List.mem_cons_of_mem _ hx)) fun q => ?_
    rw [next_at]
    split
    · exact zer_now (hl e (List.mem_cons_self ..)) h
    · exact h q
theorem zer_st {n : Nat} {l : Evts} (hl : ∀ e ∈ l, e.t.toNat < n) (k q : Nat) : ZerC n (stK l k q) :=
  zer_fold (l.take k) (fun e he => hl e (List.mem_of_mem_take he)) (fun _ _ _ => rfl) q
theorem zer_ck {n : Nat} {l : Evts} (hl : ∀ e ∈ l, e.t.toNat < n) {k : Nat} (hk : k < l.length) : ZerC n (ckK l k) := by
  have h := List.getElem?_eq_getElem hk
  unfold ckK
  rw [gE_at h]
  exact zer_now (hl _ (List.getElem_mem hk)) (zer_st hl k)
theorem leL_row {n : Nat} {a b : Ck} : ∀ m, m ≤ n → (leL ((rowC n a).drop (n - m)) ((rowC n b).drop (n - m)) = true ↔ ∀ p, n - m ≤ p → p < n → a p ≤ b p) := by
  intro m
  induction m with
  | zero =>
    intro _
    rw [Nat.sub_zero]
    have e : (rowC n a).drop n = [] := List.drop_eq_nil_of_le (by simp)
    rw [e, leL_nil]
    exact ⟨fun _ p h1 h2 => absurd h2 (by omega), fun _ => rfl⟩
  | succ m ih =>
    intro hm
    have hd : ∀ c : Ck, (rowC n c).drop (n - (m + 1)) = (c (n - (m + 1)) : Int) :: (rowC n c).drop (n - m) := fun c => by
      have hl : n - (m + 1) < (rowC n c).length := by rw [rowC_length]; omega
      rw [List.drop_eq_getElem_cons hl, show n - (m + 1) + 1 = n - m by omega]
      congr 1
      simp [rowC]
    rw [hd a, hd b, leL, Bool.and_eq_true, ih (by omega)]
    simp only [Bool.not_eq_true', decide_eq_false_iff_not]
    constructor
    · rintro ⟨h1, h2⟩ p hp hpn
      by_cases e : p = n - (m + 1)
      · subst e; omega
      · exact h2 p (by omega) hpn
    · intro h
      exact ⟨by have := h (n - (m + 1)) (Nat.le_refl _) (by omega); omega, fun p hp hpn => h p (by omega) hpn⟩
theorem with_row {n : Nat} {a b : Ck} (hn : n ≤ 3) (ha : ZerC n a) : withL (rowC n a) (rowC n b) = leC a b := by
  unfold withL
  rw [rowC_length, rowC_length]
  have h := leL_row (n := n) (a := a) (b := b) n (Nat.le_refl _)
  rw [Nat.sub_self, List.drop_zero, List.drop_zero] at h
  rw [show (n == n) = true by simp, Bool.true_and, Bool.eq_iff_iff, h, leC_iff]
  constructor
  · intro h2 p hp
    by_cases e : p < n
    · exact h2 p (Nat.zero_le _) e
    · rw [ha p (by omega)]; exact Nat.zero_le _
  · intro h2 p _ hp
    exact h2 p (by omega)
/-- Whether some of the first rows is not within a clock, or was so before. -/
def badR (R : Nat → Ck) (c : Ck) (b : Bool) : Nat → Bool
  | 0 => b
  | i + 1 => badR R c b i || !leC (R i) c
theorem badR_all {R : Nat → Ck} {c : Ck} {b : Bool} {n : Nat} (hn : n ≤ 3) (hz : ∀ t, n ≤ t → R t = zeroC) : badR R c b n = (b || !allR3 R c) := by
  have hl : leC zeroC c = true := (leC_iff _ _).2 fun p _ => Nat.zero_le _
  have : n = 0 ∨ n = 1 ∨ n = 2 ∨ n = 3 := by omega
  unfold allR3
  rcases this with rfl | rfl | rfl | rfl
  · rw [hz 0 (by omega), hz 1 (by omega), hz 2 (by omega), hl]; simp [badR]
  · rw [hz 1 (by omega), hz 2 (by omega), hl]; simp [badR]
  · rw [hz 2 (by omega), hl]; simp only [badR]; cases b <;> cases leC (R 0) c <;> cases leC (R 1) c <;> rfl
  · simp only [badR]; cases b <;> cases leC (R 0) c <;> cases leC (R 1) c <;> cases leC (R 2) c <;> rfl
structure RwH where
  gW : Nat
  cW : Nat
  gR : Nat
  cR : Nat
  G : Nat → Nat
  C : Nat → Nat
structure Rv (w : World) (lo hi n : Nat) (K : Nat → Sp) (z : WkH) (rh : RwH) : Prop where
  eW : z.vW = .slice (some ⟨rh.gW, 0, none⟩) 3 rh.cW
  eR : z.vR = .slice (some ⟨rh.gR, 0, none⟩) 3 rh.cR
  tW : ∃ D, TabC w lo hi rh.gW 3 n (fun P => (K P).W) D 0
  hR : lo ≤ rh.gR ∧ rh.gR < hi ∧ ∃ cs, Bk w rh.gR 48 cs ∧ ∀ P, P < 3 → cs[P]? = some (.slice (some ⟨rh.G P, 0, none⟩) n (rh.C P))
  tR : ∀ P, P < 3 → ∃ D, TabC w lo hi (rh.G P) n n (fun t => (K P).R t) D 0
  dG : ∀ P Q, P < Q → Q < 3 → rh.G P ≠ rh.G Q
  dW : rh.gW ≠ z.gT ∧ rh.gW ≠ z.gL ∧ rh.gW ≠ z.gC
  dR : ∀ P, P < 3 → rh.G P ≠ rh.gW ∧ rh.G P ≠ z.gT ∧ rh.G P ≠ z.gL ∧ rh.G P ≠ z.gC
theorem rv_start {w : World} {lo hi n : Nat} {z : WkH} (h : Rw w lo hi n zS (fun _ => zS) z) : ∃ rh, Rv w lo hi n (fun _ => ⟨zeroC, fun _ => zeroC⟩) z rh := by
  obtain ⟨gW, cW, DW, gR, cR, G, C, DD, e1, e2, t1, h1, t2, d1, d2, d3⟩ := h
  exact ⟨⟨gW, cW, gR, cR, G, C⟩, e1, e2, ⟨DW, t1⟩, h1, fun P hP => ⟨DD P, t2 P hP⟩, d1, d2, d3⟩
/-- A table over blocks of which only headers that are not its own have turned. -/
theorem TabC.frame {w w' : World} {lo hi hi' g m n : Nat} {S : Nat → Ck} {D : Nat → Nat} {b : Nat} {X : Nat → Prop} (h : TabC w lo hi g m n S D b) (hh : hi ≤ hi') (hX : ∀ q, X q → ∃ cs, Bk w q 25 cs) (hne : ¬ X g) (hk : ∀ q, q < hi → ¬ X q → w'.heap[q]? = w.heap[q]?) : TabC w' lo hi' g m n S D b := by
  obtain ⟨h0, h1, cs, hb, hr⟩ := h
  refine ⟨h0, by omega, cs, (hk g h1 hne).trans hb, fun i hi2 => ?_⟩
  obtain ⟨a1, a2, hc, cr, hbr, hcr⟩ := hr i hi2
  refine ⟨a1, by omega, hc, cr, (hk _ a2 (fun e => ?_)).trans hbr, hcr⟩
  obtain ⟨cx, hx⟩ := hX _ e
  unfold Bk at hbr hx
  rw [hx] at hbr
  injection hbr with hbr
  injection hbr with _ hbr
  cases hbr
theorem Rv.frame {w w' : World} {lo hi hi' n : Nat} {K : Nat → Sp} {z : WkH} {rh : RwH} {X : Nat → Prop} (h : Rv w lo hi n K z rh) (hh : hi ≤ hi') (hX : ∀ q, X q → ∃ cs, Bk w q 25 cs) (hW : ¬ X rh.gW) (hG : ∀ P, P < 3 → ¬ X (rh.G P)) (hk : ∀ q, q < hi → ¬ X q → w'.heap[q]? = w.heap[q]?) : Rv w' lo hi' n K z rh := by
  obtain ⟨D, tW⟩ := h.tW
  obtain ⟨r0, r1, cs, hb, hc⟩ := h.hR
  have hxR : ¬ X rh.gR := fun e => by
    obtain ⟨cx, hx⟩ := hX _ e
    unfold Bk at hb hx
    rw [hx] at hb
    injection hb with hb
    injection hb with _ hb
    cases hb
  exact ⟨h.eW, h.eR, ⟨D, tW.frame hh hX hW hk⟩, ⟨r0, by omega, cs, (hk _ r1 hxR).trans hb, hc⟩, fun P hP => by
    obtain ⟨D2, t2⟩ := h.tR P hP
    exact ⟨D2, t2.frame hh hX (hG P hP) hk⟩, h.dG, h.dW, h.dR⟩
theorem Rv.below {w w' : World} {lo hi hi' n : Nat} {K : Nat → Sp} {z : WkH} {rh : RwH} {B : Nat} (h : Rv w lo hi n K z rh) (hb : Below B w w') (hB : hi ≤ B) (hh : hi ≤ hi') : Rv w' lo hi' n K z rh :=
  h.frame (X := fun _ => False) hh (fun _ h => h.elim) (fun h => h) (fun _ _ h => h) fun q hq _ => hb.block q (by omega)
/-- The step of the clocks leaves what is kept of places. -/
theorem Rv.step {w w' : World} {lo n : Nat} {K : Nat → Sp} {S : Nat → Ck} {D : Nat → Nat} {z : WkH} {rh : RwH} (h : Rv w lo w.heap.size n K z rh) (hw : Wk w lo w.heap.size n S D z) (hs : w.heap.size ≤ w'.heap.size) (hf : ∀ q, q < w.heap.size → q ≠ z.gT → q ≠ z.gL → q ≠ z.gC → w'.heap[q]? = w.heap[q]?) : Rv w' lo w'.heap.size n K z rh := by
  refine h.frame (X := fun q => q = z.gT ∨ q = z.gL ∨ q = z.gC) hs (fun q e => ?_) (fun e => ?_) (fun P hP e => ?_) fun q hq e => hf q hq (fun x => e (Or.inl x)) (fun x => e (Or.inr (Or.inl x))) (fun x => e (Or.inr (Or.inr x)))
  · rcases e with rfl | rfl | rfl
    · obtain ⟨_, _, cs, hb, _⟩ := hw.tT; exact ⟨cs, hb⟩
    · obtain ⟨_, _, cs, hb, _⟩ := hw.tL; exact ⟨cs, hb⟩
    · obtain ⟨_, _, cs, hb, _⟩ := hw.tC; exact ⟨cs, hb⟩
  · have := h.dW; omega
  · have := h.dR P hP; omega
def setK (K : Nat → Sp) (P : Nat) (s : Sp) : Nat → Sp := fun Q => if Q = P then s else K Q
/-- A new row for the last write. -/
theorem Rv.putW {w v : World} {lo n r c P : Nat} {K : Nat → Sp} {z : WkH} {rh : RwH} {ck : Ck} (h : Rv w lo w.heap.size n K z rh) (hb : Below w.heap.size w v) (hP : P < 3) (hr : w.heap.size ≤ r) (hN : NowR v r n ck) :
    Rv (v.setCell ⟨rh.gW, P, none⟩ (.slice (some ⟨r, 0, none⟩) n c)) lo v.heap.size n (setK K P ⟨ck, (K P).R⟩) z rh := by
  obtain ⟨D, tW⟩ := h.tW
  have hv : ∀ q, lo ≤ q → q < w.heap.size → v.heap[q]? = w.heap[q]? := fun q _ hq => hb.block q hq
  have hs := hb.size
  have hl := hN.lt
  obtain ⟨x0, x1, cs, hbk, _⟩ := id tW
  have T := tW.put (c := c) hP hv (by omega) hl hs hr hN
  rw [Nat.zero_add] at T
  have h2 := h.frame (w' := v.setCell ⟨rh.gW, P, none⟩ (.slice (some ⟨r, 0, none⟩) n c)) (hi' := v.heap.size) (X := fun q => q = rh.gW) hs (fun q e => ⟨cs, e ▸ hbk⟩)
  refine ⟨h.eW, h.eR, ⟨_, T.base (b := 0) (Nat.le_refl _) (Nat.le_refl _) (fun _ _ _ => rfl) (fun i hi => ?_) (fun i _ => by rw [Nat.zero_add])⟩, ?_, fun Q hQ => ?_, h.dG, h.dW, h.dR⟩
  · rw [Nat.zero_add]
    unfold setK updC
    by_cases e : i = P
    · rw [if_pos e, if_pos e]
    · rw [if_neg e, if_neg e]
  · obtain ⟨r0, r1, cr, hbr, hc⟩ := h.hR
    refine ⟨r0, by omega, cr, (Below.heap_setCell v ⟨rh.gW, P, none⟩ _ rh.gR (fun e => ?_)).trans ((hv _ r0 r1).trans hbr), hc⟩
    have e : rh.gR = rh.gW := e
    rw [e] at hbr
    unfold Bk at hbr hbk
    rw [hbk] at hbr
    injection hbr with hbr
    injection hbr with _ hbr
    cases hbr
  · obtain ⟨D2, t2⟩ := h.tR Q hQ
    refine ⟨D2, (t2.far (S' := fun t => (K Q).R t) (D' := D2) hv hs (h.dR Q hQ).1 hbk (fun _ _ => rfl) (fun _ _ => rfl)).base (b := 0) (Nat.le_refl _) (Nat.le_refl _) (fun _ _ _ => rfl) (fun i _ => ?_) (fun i _ => by rw [Nat.zero_add])⟩
    rw [Nat.zero_add]
    show (setK K P ⟨ck, (K P).R⟩ Q).R i = (K Q).R i
    unfold setK
    by_cases e : Q = P
    · rw [if_pos e, e]
    · rw [if_neg e]
/-- A new row for a thread's last read. -/
theorem Rv.putR {w v : World} {lo n r c P t : Nat} {K : Nat → Sp} {z : WkH} {rh : RwH} {ck : Ck} (h : Rv w lo w.heap.size n K z rh) (hb : Below w.heap.size w v) (hP : P < 3) (ht : t < n) (hr : w.heap.size ≤ r) (hN : NowR v r n ck) :
    Rv (v.setCell ⟨rh.G P, t, none⟩ (.slice (some ⟨r, 0, none⟩) n c)) lo v.heap.size n (setK K P ⟨(K P).W, fun u => if u = t then ck else (K P).R u⟩) z rh := by
  obtain ⟨D, tW⟩ := h.tW
  obtain ⟨DP, tP⟩ := h.tR P hP
  have hv : ∀ q, lo ≤ q → q < w.heap.size → v.heap[q]? = w.heap[q]? := fun q _ hq => hb.block q hq
  have hs := hb.size
  have hl := hN.lt
  obtain ⟨x0, x1, cs, hbk, _⟩ := id tP
  refine ⟨h.eW, h.eR, ⟨D, (tW.far (S' := fun Q => (K Q).W) (D' := D) hv hs (fun e => (h.dR P hP).1 e.symm) hbk (fun _ _ => rfl) (fun _ _ => rfl)).base (b := 0) (Nat.le_refl _) (Nat.le_refl _) (fun _ _ _ => rfl) (fun i _ => ?_) (fun i _ => by rw [Nat.zero_add])⟩, ?_, fun Q hQ => ?_, h.dG, h.dW, h.dR⟩
  · rw [Nat.zero_add]
    unfold setK
    by_cases e : i = P
    · rw [if_pos e, e]
    · rw [if_neg e]
  · obtain ⟨r0, r1, cr, hbr, hc⟩ := h.hR
    refine ⟨r0, by omega, cr, (Below.heap_setCell v ⟨rh.G P, t, none⟩ _ rh.gR (fun e => ?_)).trans ((hv _ r0 r1).trans hbr), hc⟩
    have e : rh.gR = rh.G P := e
    rw [e] at hbr
    unfold Bk at hbr hbk
    rw [hbk] at hbr
    injection hbr with hbr
    injection hbr with _ hbr
    cases hbr
  · by_cases e : Q = P
    · subst e
      have T := tP.put (c := c) ht hv (by omega) hl hs hr hN
      rw [Nat.zero_add] at T
      refine ⟨_, T.base (b := 0) (Nat.le_refl _) (Nat.le_refl _) (fun _ _ _ => rfl) (fun i _ => ?_) (fun i _ => by rw [Nat.zero_add])⟩
      rw [Nat.zero_add]
      unfold setK updC
      rw [if_pos rfl]
    · obtain ⟨D2, t2⟩ := h.tR Q hQ
      have hne : rh.G Q ≠ rh.G P := by
        rcases Nat.lt_trichotomy Q P with h1 | h1 | h1
        · exact h.dG Q P h1 hP
        · exact absurd h1 e
        · exact fun e2 => h.dG P Q h1 hQ e2.symm
      refine ⟨D2, (t2.far (S' := fun t => (K Q).R t) (D' := D2) hv hs hne hbk (fun _ _ => rfl) (fun _ _ => rfl)).base (b := 0) (Nat.le_refl _) (Nat.le_refl _) (fun _ _ _ => rfl) (fun i _ => ?_) (fun i _ => by rw [Nat.zero_add])⟩
      rw [Nat.zero_add]
      unfold setK
      rw [if_neg e]
end Go.Proofs.Ytidibnmlceccnaa
namespace Go.Proofs.Ytidibnmlceccnaa
open Go.RowKit Pl Go.BigFrame
set_option maxHeartbeats 8000000
set_option maxRecDepth 100000
set_option linter.unusedVariables false

theorem within_rows (g1 c1 g2 c2 n : Nat) (a b : Ck) (w : World) (B : Nat) (h1 : Vs w B (some ⟨g1, 0, none⟩) (ints (rowC n a))) (h2 : Vs w B (some ⟨g2, 0, none⟩) (ints (rowC n b))) (hB : B ≤ w.heap.size) (hn : n ≤ 3) (ha : ZerC n a) (r : Bool) (hr : Hid (leC a b = r)) :
    Calls Try.prog 50 #[.slice (some ⟨g1, 0, none⟩) n c1, .slice (some ⟨g2, 0, none⟩) n c2] w fun e w' => e = .returned (.bool r) ∧ Below w.heap.size w w' := by
  have h := swithin_any ⟨some ⟨g1, 0, none⟩, c1⟩ (rowC n a) ⟨some ⟨g2, 0, none⟩, c2⟩ (rowC n b) w B ⟨h1⟩ ⟨h2⟩ hB ⟨by rw [rowC_length]; omega⟩ ⟨by rw [rowC_length]; omega⟩ r (Lib.hid (by rw [with_row hn ha]; exact hr.out))
  unfold IsV at h
  rw [rowC_length, rowC_length] at h
  exact h
structure ZerK (n : Nat) (s : Sp) : Prop where
  w : ZerC n s.W
  r : ∀ t, ZerC n (s.R t)
  o : ∀ t, n ≤ t → s.R t = zeroC
/-- What races comes to. -/
def Rcs (w : World) (lo n : Nat) (S : Nat → Ck) (D : Nat → Nat) (K : Nat → Sp) (z : WkH) (rh : RwH) (bad : Bool) (e : Ending) (w' : World) : Prop :=
  e = .returned (.bool bad) ∧ Below lo w w' ∧ w.heap.size ≤ w'.heap.size ∧ Wk w' lo w'.heap.size n S D z ∧ Rv w' lo w'.heap.size n K z rh ∧ ∀ q, q < w.heap.size → q ≠ rh.gW → (∀ P, P < 3 → q ≠ rh.G P) → w'.heap[q]? = w.heap[q]?
theorem Rv.hdW {w : World} {lo hi n : Nat} {K : Nat → Sp} {z : WkH} {rh : RwH} (h : Rv w lo hi n K z rh) : ∃ cs, Bk w rh.gW 25 cs := by
  obtain ⟨D, _, _, cs, hb, _⟩ := h.tW
  exact ⟨cs, hb⟩
theorem Rv.hdR {w : World} {lo hi n : Nat} {K : Nat → Sp} {z : WkH} {rh : RwH} (h : Rv w lo hi n K z rh) {P : Nat} (hP : P < 3) : ∃ cs, Bk w (rh.G P) 25 cs := by
  obtain ⟨D, _, _, cs, hb, _⟩ := h.tR P hP
  exact ⟨cs, hb⟩

theorem races_none (z : WkH) (lo n : Nat) (S : Nat → Ck) (D : Nat → Nat) (K : Nat → Sp) (rh : RwH) (tn : Nat) (ti q a bb cc : Int) (ss : Bool) (gN cN : Nat) (c : Ck) (w : World) (hW0 : Wk w lo w.heap.size n S D z) (hR0 : Rv w lo w.heap.size n K z rh) (hN0 : NowR w gN n c) (hlo : lo ≤ w.heap.size) (hn : n ≤ 3) (ht : tn < n) (hpl : placeZ q a bb cc ss = -1) :
    Calls Try.prog 103 #[.pointer (some ⟨z.zb, 0, none⟩), Ev tn ti q a bb cc ss, .slice (some ⟨gN, 0, none⟩) n cN] w (Rcs w lo n S D K z rh false) := by
  have hn1 : 1 ≤ n := by omega
  obtain ⟨W, hW⟩ : ∃ W, W = w.alloc (.cells #[.int .i64 tn, .int .i64 ti, .int .i64 q, .int .i64 a, .int .i64 bb, .int .i64 cc, .bool ss] 81) := ⟨_, rfl⟩
  have bW : Below w.heap.size w W := by rw [hW]; go_grown
  have sW : W.heap.size = w.heap.size + 1 := by rw [hW]; simp
  have kE : Bk W w.heap.size 81 #[.int .i64 tn, .int .i64 ti, .int .i64 q, .int .i64 a, .int .i64 bb, .int .i64 cc, .bool ss] := by rw [hW]; exact Bk.new _ _ _
  have sWa := Nat.le_of_eq sW
  have sWb := Nat.le_of_eq sW.symm
  have HW := Lib.hid hW
  have KE := Lib.hid kE
  have BW := Lib.hid bW
  have WK := Lib.hid (hW0.below (hi' := W.heap.size) bW (Nat.le_refl _) (by omega))
  have RK := Lib.hid (hR0.below (hi' := W.heap.size) bW (Nat.le_refl _) (by omega))
  have NK := Lib.hid (hN0.below bW)
  have hz0 := hW0.b0.2
  have hz : z.zb < W.heap.size := by omega
  have gWl : rh.gW < w.heap.size := by obtain ⟨_, t⟩ := hR0.tW; exact t.2.1
  have gRl : rh.gR < w.heap.size := hR0.hR.2.1
  have gGl : ∀ P, P < 3 → rh.G P < w.heap.size := fun P hP => by obtain ⟨_, t⟩ := hR0.tR P hP; exact t.2.1
  have gNl := hN0.lt
  have y2 : W.cell? ⟨w.heap.size, 2, none⟩ = some (.int .i64 q) := kE.cell 2
  have y3 : W.cell? ⟨w.heap.size, 3, none⟩ = some (.int .i64 a) := kE.cell 3
  have y4 : W.cell? ⟨w.heap.size, 4, none⟩ = some (.int .i64 bb) := kE.cell 4
  have y5 : W.cell? ⟨w.heap.size, 5, none⟩ = some (.int .i64 cc) := kE.cell 5
  have y6 : W.cell? ⟨w.heap.size, 6, none⟩ = some (.bool ss) := kE.cell 6
  have lb := kE.lt
  clear hW bW sW kE hW0 hR0 hN0
  go_enter Try.func103, Try.ntmps103
  go_wp2_with fail
  rw [← HW.out]
  go_wp2_with fail
  refine (ret_int hpl (splace_any q a bb cc ss W)).mono ?_
  rintro e v1 ⟨rfl, hb1⟩
  have B1 := Lib.hid hb1
  have z1 := hb1.size
  clear hb1 y2 y3 y4 y5 y6 lb
  go_wp2
  go_ret
  exact ⟨rfl, (BW.out.mono hlo).trans (B1.out.mono (by omega)), by omega, WK.out.below B1.out (Nat.le_refl _) z1, RK.out.below B1.out (Nat.le_refl _) z1, fun q h1 _ _ => (B1.out.block q (by omega)).trans (BW.out.block q h1)⟩
theorem races_at (z : WkH) (lo n : Nat) (S : Nat → Ck) (D : Nat → Nat) (K : Nat → Sp) (rh : RwH) (tn : Nat) (ti q a bb cc : Int) (ss : Bool) (gN cN : Nat) (c : Ck) (w : World) (hW0 : Wk w lo w.heap.size n S D z) (hR0 : Rv w lo w.heap.size n K z rh) (hN0 : NowR w gN n c) (hlo : lo ≤ w.heap.size) (hn : n ≤ 3) (ht : tn < n) (P : Nat) (hP : P < 3) (hZ : ZerK n (K P)) (hc0 : ZerC n c) (hpl : placeZ q a bb cc ss = ((P : Nat) : Int)) (wr : Bool) (hwr : writesB q a bb cc ss = wr) :
    Calls Try.prog 103 #[.pointer (some ⟨z.zb, 0, none⟩), Ev tn ti q a bb cc ss, .slice (some ⟨gN, 0, none⟩) n cN] w (Rcs w lo n S D (setK K P (noteP (K P) wr tn c)) z rh (badQ (K P) wr c)) := by
  have hn1 : 1 ≤ n := by omega
  obtain ⟨W, hW⟩ : ∃ W, W = w.alloc (.cells #[.int .i64 tn, .int .i64 ti, .int .i64 q, .int .i64 a, .int .i64 bb, .int .i64 cc, .bool ss] 81) := ⟨_, rfl⟩
  have bW : Below w.heap.size w W := by rw [hW]; go_grown
  have sW : W.heap.size = w.heap.size + 1 := by rw [hW]; simp
  have kE : Bk W w.heap.size 81 #[.int .i64 tn, .int .i64 ti, .int .i64 q, .int .i64 a, .int .i64 bb, .int .i64 cc, .bool ss] := by rw [hW]; exact Bk.new _ _ _
  have sWa := Nat.le_of_eq sW
  have sWb := Nat.le_of_eq sW.symm
  have HW := Lib.hid hW
  have KE := Lib.hid kE
  have BW := Lib.hid bW
  have WK := Lib.hid (hW0.below (hi' := W.heap.size) bW (Nat.le_refl _) (by omega))
  have RK := Lib.hid (hR0.below (hi' := W.heap.size) bW (Nat.le_refl _) (by omega))
  have NK := Lib.hid (hN0.below bW)
  have hz0 := hW0.b0.2
  have hz : z.zb < W.heap.size := by omega
  have gWl : rh.gW < w.heap.size := by obtain ⟨_, t⟩ := hR0.tW; exact t.2.1
  have gRl : rh.gR < w.heap.size := hR0.hR.2.1
  have gGl : ∀ P, P < 3 → rh.G P < w.heap.size := fun P hP => by obtain ⟨_, t⟩ := hR0.tR P hP; exact t.2.1
  have gNl := hN0.lt
  have y2 : W.cell? ⟨w.heap.size, 2, none⟩ = some (.int .i64 q) := kE.cell 2
  have y3 : W.cell? ⟨w.heap.size, 3, none⟩ = some (.int .i64 a) := kE.cell 3
  have y4 : W.cell? ⟨w.heap.size, 4, none⟩ = some (.int .i64 bb) := kE.cell 4
  have y5 : W.cell? ⟨w.heap.size, 5, none⟩ = some (.int .i64 cc) := kE.cell 5
  have y6 : W.cell? ⟨w.heap.size, 6, none⟩ = some (.bool ss) := kE.cell 6
  have lb := kE.lt
  clear hW bW sW kE hW0 hR0 hN0
  go_enter Try.func103, Try.ntmps103
  go_wp2_with fail
  rw [← HW.out]
  go_wp2_with fail
  refine (ret_int hpl (splace_any q a bb cc ss W)).mono ?_
  rintro e v1 ⟨rfl, hb1⟩
  have B1 := Lib.hid hb1
  have z1 := hb1.size
  clear hb1 y2 y3 y4 y5 y6 lb

  have iP : (P : Int) < 3 := by omega
  have iP0 : (0 : Int) ≤ (P : Int) := by omega
  have iT : (tn : Int) < (n : Int) := by omega
  have gPl := gGl P hP
  obtain ⟨DW, tW⟩ := RK.out.tW
  obtain ⟨cW0, hW0, fW0⟩ := tW.head hP
  have rW := Lib.hid (tW.row hP)
  rw [Nat.zero_add] at hW0 rW
  have x3 : v1.cell? ⟨z.zb, 3, none⟩ = some (.slice (some ⟨rh.gW, 0, none⟩) 3 rh.cW) := by rw [← RK.out.eW]; exact (B1.out.cell (p := ⟨z.zb, 3, none⟩) hz).trans (WK.out.bx.cell 3)
  have xW : v1.cell? ⟨rh.gW, P, none⟩ = some (.slice (some ⟨DW P, 0, none⟩) n cW0) := (B1.out.cell (p := ⟨rh.gW, P, none⟩) (by show rh.gW < W.heap.size; omega)).trans hW0
  obtain ⟨b0, hb0⟩ : ∃ b0, leC (K P).W c = b0 := ⟨_, rfl⟩
  go_wp2_with fail
  refine (within_rows (DW P) cW0 gN cN n (K P).W c v1 v1.heap.size ((rW.out.below B1.out (Nat.le_refl _)).up (Below.refl _ _) z1 z1) (((NK.out.vs).below B1.out (Nat.le_refl _)).up (Below.refl _ _) z1 z1) (Nat.le_refl _) hn hZ.w b0 (Lib.hid hb0)).mono ?_
  rintro e v2 ⟨rfl, hb2⟩
  have B2 := Lib.hid (below_on B1.out hb2)
  have z2 := hb2.size
  clear hb2 x3 xW tW hW0 fW0
  have kE := KE.out.below B2.out (by omega)
  have y2 : v2.cell? ⟨w.heap.size, 2, none⟩ = some (.int .i64 q) := kE.cell 2
  have y3 : v2.cell? ⟨w.heap.size, 3, none⟩ = some (.int .i64 a) := kE.cell 3
  have y4 : v2.cell? ⟨w.heap.size, 4, none⟩ = some (.int .i64 bb) := kE.cell 4
  have y5 : v2.cell? ⟨w.heap.size, 5, none⟩ = some (.int .i64 cc) := kE.cell 5
  have y6 : v2.cell? ⟨w.heap.size, 6, none⟩ = some (.bool ss) := kE.cell 6
  have lb := kE.lt
  clear kE
  go_wp2_with fail
  refine (ret_bool hwr (swrites_any q a bb cc ss v2)).mono ?_
  rintro e v3 ⟨rfl, hb3⟩
  have B3 := Lib.hid (below_on B2.out hb3)
  have z3 := hb3.size
  clear hb3 y2 y3 y4 y5 y6 lb
  have HB0 := Lib.hid hb0
  clear hb0
  cases wr with
  | false =>
    have NV := Lib.hid ((NK.out.same (B3.out.block gN (by omega))) : NowR v3 gN n c)
    have WV := Lib.hid (WK.out.below (hi' := v3.heap.size) B3.out (Nat.le_refl _) B3.out.size)
    have RV := Lib.hid (RK.out.below (hi' := v3.heap.size) B3.out (Nat.le_refl _) B3.out.size)
    have KV := Lib.hid (KE.out.below B3.out (by omega))
    have BL := Lib.hid (show Below lo w v3 from (BW.out.mono hlo).trans (B3.out.mono (by omega)))
    have FR := Lib.hid (show ∀ q, q < w.heap.size → q ≠ rh.gW → (∀ P, P < 3 → q ≠ rh.G P) → v3.heap[q]? = w.heap[q]? from fun q h1 _ _ => (B3.out.block q (by omega)).trans (BW.out.block q h1))
    have zV := B3.out.size
    clear WK RK NK KE rW
    go_wp2_with fail
    obtain ⟨DX, tX⟩ := RV.out.tR P hP
    obtain ⟨cX, hX, -⟩ := tX.head ht
    have KX := RV.out.hdR hP
    have loX := tX.1
    obtain ⟨_, _, csR, hbR, hcR⟩ := RV.out.hR
    have ne11_0 : rh.G P ≠ z.zb := neZ WV.out.bx tX
    have ne11_1 : rh.G P ≠ rh.gR := fun e => by
      obtain ⟨cx, hx⟩ := KX
      rw [e] at hx
      unfold Bk at hx hbR
      rw [hbR] at hx
      injection hx with hx
      injection hx with _ hx
      cases hx
    have ne11_2 : rh.G P ≠ w.heap.size := by omega
    have neT := fun e => (RV.out.dR P hP).2.1 (Eq.symm e)
    have neL := fun e => (RV.out.dR P hP).2.2.1 (Eq.symm e)
    have neC := fun e => (RV.out.dR P hP).2.2.2 (Eq.symm e)
    have xR0 := (hbR.cell P).trans (hcR P hP)
    clear tX hbR hcR
    have x0 : v3.cell? ⟨z.zb, 4, none⟩ = some (.slice (some ⟨rh.gR, 0, none⟩) 3 rh.cR) := (by rw [← RV.out.eR]; exact WV.out.bx.cell 4)
    have x1 : v3.cell? ⟨rh.gR, P, none⟩ = some (.slice (some ⟨rh.G P, 0, none⟩) n (rh.C P)) := xR0
    have x2 : v3.cell? ⟨w.heap.size, 0, none⟩ = some (.int .i64 tn) := KV.out.cell 0
    have AllS := Lib.hid (show ∀ w', Below v3.heap.size v3 w' → (w'.cell? ⟨z.zb, 4, none⟩ = some (.slice (some ⟨rh.gR, 0, none⟩) 3 rh.cR) ∧ w'.cell? ⟨rh.gR, P, none⟩ = some (.slice (some ⟨rh.G P, 0, none⟩) n (rh.C P)) ∧ w'.cell? ⟨w.heap.size, 0, none⟩ = some (.int .i64 tn)) from fun w' hb => ⟨(hb.cell (p := ⟨z.zb, 4, none⟩) (by show z.zb < v3.heap.size; omega)).trans x0, (hb.cell (p := ⟨rh.gR, P, none⟩) (by show rh.gR < v3.heap.size; omega)).trans x1, (hb.cell (p := ⟨w.heap.size, 0, none⟩) (by show w.heap.size < v3.heap.size; omega)).trans x2⟩)
    have AllF := Lib.hid (show ∀ v : World, Below v3.heap.size v3 v → ∀ r : Value, ((v.setCell ⟨rh.G P, tn, none⟩ r).cell? ⟨z.zb, 4, none⟩ = some (.slice (some ⟨rh.gR, 0, none⟩) 3 rh.cR) ∧ (v.setCell ⟨rh.G P, tn, none⟩ r).cell? ⟨rh.gR, P, none⟩ = some (.slice (some ⟨rh.G P, 0, none⟩) n (rh.C P)) ∧ (v.setCell ⟨rh.G P, tn, none⟩ r).cell? ⟨w.heap.size, 0, none⟩ = some (.int .i64 tn)) from fun v hBv r => ⟨(World.cell?_setCell_far _ _ _ _ (show rh.G P ≠ z.zb from ne11_0)).trans (AllS.out v hBv).1, (World.cell?_setCell_far _ _ _ _ (show rh.G P ≠ rh.gR from ne11_1)).trans (AllS.out v hBv).2.1, (World.cell?_setCell_far _ _ _ _ (show rh.G P ≠ w.heap.size from ne11_2)).trans (AllS.out v hBv).2.2⟩)
    have hbl : rh.G P < v3.heap.size := by omega
    go_wp2_with fail
    go_region_held3 (fun w' => w'.cell? ⟨z.zb, 4, none⟩ = some (.slice (some ⟨rh.gR, 0, none⟩) 3 rh.cR) ∧ w'.cell? ⟨rh.gR, P, none⟩ = some (.slice (some ⟨rh.G P, 0, none⟩) n (rh.C P)) ∧ w'.cell? ⟨w.heap.size, 0, none⟩ = some (.int .i64 tn)) (first | (with_reducible exact Fin.out) | (go_split_ands; refine AllS.out _ ?_; go_grown; done) | (refine AllS.out _ ?_; go_grown; done)) (first | (go_at_call 139; go_split_ands; refine (nums_row gN n cN c _ v3.heap.size (NV.out.vs.below (show Below v3.heap.size v3 _ from by go_grown) (Nat.le_refl _)) (show Below v3.heap.size v3 _ from by go_grown).size hn hn1).mono ?_; rintro e v11 ⟨g11, c11, rfl, hg, hv, hnv⟩; have hBv : Below v3.heap.size v3 v11 := below_on (by go_grown) hv; have HBv := Lib.hid hBv; have hg : v3.heap.size ≤ g11 := Nat.le_trans (show Below v3.heap.size v3 _ from by go_grown).size hg; have NN := Lib.hid hnv; have cX2 := (hBv.cell (p := ⟨rh.G P, tn, none⟩) hbl).trans hX; have fX2 : v11.frozen? ⟨rh.G P, tn, none⟩ = false := (by obtain ⟨cx, hx⟩ := KX; exact (Bk.below hx hBv hx.lt).free tn); have lX2 : rh.G P < v11.heap.size := Nat.lt_of_lt_of_le hbl hBv.size; have Fin := Lib.hid (AllF.out v11 hBv (.slice (some ⟨g11, 0, none⟩) n c11)); clear hv hnv))
    have zv := HBv.out.size
    have RN := Lib.hid (RV.out.putR (c := c11) HBv.out hP ht hg NN.out)
    have neN : gN ≠ rh.G P := fun e => by
      obtain ⟨cs, hb, _⟩ := NV.out
      obtain ⟨cs2, hb2⟩ := KX
      rw [e] at hb
      unfold Bk at hb hb2
      rw [hb2] at hb
      injection hb with hb
      injection hb with _ hb
      cases hb
    have NV2 := Lib.hid ((NV.out.below HBv.out).same (Below.heap_setCell v11 ⟨rh.G P, tn, none⟩ (.slice (some ⟨g11, 0, none⟩) n c11) gN neN))
    have WV2 := Lib.hid (show Wk (v11.setCell ⟨rh.G P, tn, none⟩ (.slice (some ⟨g11, 0, none⟩) n c11)) lo v11.heap.size n S D z from by
      obtain ⟨cx, hx⟩ := KX
      exact (WV.out.below (hi' := v11.heap.size) HBv.out (Nat.le_refl _) zv).but (Nat.le_refl _) neT neL neC (Bk.below hx HBv.out hx.lt) fun q h1 h2 => Below.heap_setCell v11 ⟨rh.G P, tn, none⟩ _ q h2)
    have FR2 := Lib.hid (show ∀ q, q < w.heap.size → q ≠ rh.gW → (∀ P, P < 3 → q ≠ rh.G P) → (v11.setCell ⟨rh.G P, tn, none⟩ (.slice (some ⟨g11, 0, none⟩) n c11)).heap[q]? = w.heap[q]? from fun q h1 h2 h3 => (Below.heap_setCell v11 ⟨rh.G P, tn, none⟩ _ q (h3 P hP)).trans ((HBv.out.block q (by omega)).trans (FR.out q h1 h2 h3)))
    have KE2 := Lib.hid (show Bk (v11.setCell ⟨rh.G P, tn, none⟩ (.slice (some ⟨g11, 0, none⟩) n c11)) w.heap.size 81 #[.int .i64 tn, .int .i64 ti, .int .i64 q, .int .i64 a, .int .i64 bb, .int .i64 cc, .bool ss] from (Below.heap_setCell v11 ⟨rh.G P, tn, none⟩ _ w.heap.size (by show w.heap.size ≠ rh.G P; omega)).trans (KV.out.below HBv.out KV.out.lt))
    have BL2 := Lib.hid ((BL.out.trans (HBv.out.mono (by omega))).setCell (p := ⟨rh.G P, tn, none⟩) (by show lo ≤ rh.G P; exact loX) (.slice (some ⟨g11, 0, none⟩) n c11))
    have ZT : (v11.setCell ⟨rh.G P, tn, none⟩ (.slice (some ⟨g11, 0, none⟩) n c11)).heap.size = v11.heap.size := World.size_setCell ..
    clear AllS AllF Fin hX cX2 fX2 lX2 hBv KX neT neL neC loX hbl
    try clear hHeld
    clear x0 x1 x2
    obtain ⟨u11, hOut⟩ : ∃ V, V = v11.setCell ⟨rh.G P, tn, none⟩ (.slice (some ⟨g11, 0, none⟩) n c11) := ⟨_, rfl⟩
    rw [← hOut] at RN NV2 WV2 FR2 KE2 BL2 ZT
    rw [← ZT] at RN WV2
    rw [← hOut]
    have zu11 : v3.heap.size ≤ u11.heap.size := by rw [ZT]; exact zv
    clear hOut NV WV FR KV BL RV HBv NN neN zv ZT
    have NV := NV2
    have WV := WV2
    have FR := FR2
    have KV := KE2
    have BL := BL2
    have RV := RN
    clear NV2 WV2 FR2 KE2 BL2 RN
    have hbad : badQ (K P) false c = !b0 := by unfold badQ; rw [HB0.out]; simp
    go_wp2
    go_ret
    exact ⟨by rw [hbad]; rfl, BL.out, by omega, WV.out, RV.out, FR.out⟩
  | true =>
    obtain ⟨bR, hbR0⟩ : ∃ b, (!b0) = b := ⟨_, rfl⟩
    have x4 := WK.out.bx.cell 4
    obtain ⟨_, _, csR, hbR, hcR⟩ := RK.out.hR
    have xR := (hbR.cell P).trans (hcR P hP)
    have xz : W.cell? ⟨z.zb, 4, none⟩ = some (.slice (some ⟨rh.gR, 0, none⟩) 3 rh.cR) := by rw [← RK.out.eR]; exact x4
    clear x4 hbR hcR
    have XR := Lib.hid (And.intro xz xR)
    obtain ⟨DR, tR⟩ := RK.out.tR P hP
    have TR := Lib.hid tR
    clear xz xR tR
    go_wp2
    go_loopw [8, 9] (fun bv iv wr => ∃ i : Nat, i ≤ n ∧ iv = .int .i64 i ∧ bv = .bool (badR (K P).R c bR i) ∧ Below W.heap.size W wr) (fun _ iv _ => n - (intOf iv).toNat)
    case atStart => exact ⟨0, Nat.zero_le _, rfl, by rw [← hbR0]; first | rfl | simp [badR], B3.out⟩
    case round =>
      obtain ⟨i, hin, rfl, rfl, hbel⟩ := hrel
      have zr := hbel.size
      have HB := Lib.hid hbel
      have c4 : wr.cell? ⟨z.zb, 4, none⟩ = some (.slice (some ⟨rh.gR, 0, none⟩) 3 rh.cR) := (hbel.cell (p := ⟨z.zb, 4, none⟩) hz).trans XR.out.1
      have cR : wr.cell? ⟨rh.gR, P, none⟩ = some (.slice (some ⟨rh.G P, 0, none⟩) n (rh.C P)) := (hbel.cell (p := ⟨rh.gR, P, none⟩) (by show rh.gR < W.heap.size; omega)).trans XR.out.2
      clear hbel
      by_cases hlt : i < n
      · have iI : (i : Int) < (n : Int) := by omega
        obtain ⟨cI, hI, -⟩ := TR.out.head hlt
        have rI := TR.out.row hlt
        rw [Nat.zero_add] at hI rI
        have cI2 : wr.cell? ⟨rh.G P, i, none⟩ = some (.slice (some ⟨DR i, 0, none⟩) n cI) := (HB.out.cell (p := ⟨rh.G P, i, none⟩) (by show rh.G P < W.heap.size; omega)).trans hI
        obtain ⟨bb0, hbb⟩ : ∃ b, badR (K P).R c bR i = b := ⟨_, rfl⟩
        obtain ⟨y, hy⟩ : ∃ y, leC ((K P).R i) c = y := ⟨_, rfl⟩
        have hnext : badR (K P).R c bR (i + 1) = (bb0 || !y) := by show (badR (K P).R c bR i || !leC ((K P).R i) c) = _; rw [hbb, hy]
        have HWI := Lib.hid (within_rows (DR i) cI gN cN n ((K P).R i) c wr wr.heap.size ((rI.below HB.out (Nat.le_refl _)).up (Below.refl _ _) zr zr) (((NK.out.vs).below HB.out (Nat.le_refl _)).up (Below.refl _ _) zr zr) (Nat.le_refl _) hn (hZ.r i) y (Lib.hid hy))
        have HN := Lib.hid hnext
        rw [hbb]
        clear hnext hI rI hy hbb
        cases bb0 with
        | true =>
          have e1 : badR (K P).R c bR (i + 1) = true := by rw [HN.out]; rfl
          go_wp2
          go_roundw
          case rel => exact ⟨i + 1, by omega, by go_num, by rw [e1], HB.out⟩
          case measure => simp [intOf]; omega
        | false =>
          go_wp2_with fail
          refine HWI.out.mono ?_
          rintro e v5 ⟨rfl, hb5⟩
          have HB5 := Lib.hid (below_on HB.out hb5)
          clear hb5 c4 cR cI2
          have e1 : badR (K P).R c bR (i + 1) = !y := by rw [HN.out]; rfl
          cases y
          all_goals
            go_wp2
            go_roundw
            case rel => exact ⟨i + 1, by omega, by go_num, by rw [e1]; rfl, HB5.out⟩
            case measure => simp [intOf]; omega
      · have hin2 : n = i := by omega
        subst hin2
        have hbad : badR (K P).R c bR n = badQ (K P) true c := by rw [badR_all hn hZ.o, ← hbR0]; unfold badQ; rw [HB0.out, Bool.true_and]
        rw [hbad]
        clear hbad XR TR
        have NV := Lib.hid ((NK.out.same (HB.out.block gN (by omega))) : NowR wr gN n c)
        have WV := Lib.hid (WK.out.below (hi' := wr.heap.size) HB.out (Nat.le_refl _) HB.out.size)
        have RV := Lib.hid (RK.out.below (hi' := wr.heap.size) HB.out (Nat.le_refl _) HB.out.size)
        have KV := Lib.hid (KE.out.below HB.out (by omega))
        have BL := Lib.hid (show Below lo w wr from (BW.out.mono hlo).trans (HB.out.mono (by omega)))
        have FR := Lib.hid (show ∀ q, q < w.heap.size → q ≠ rh.gW → (∀ P, P < 3 → q ≠ rh.G P) → wr.heap[q]? = w.heap[q]? from fun q h1 _ _ => (HB.out.block q (by omega)).trans (BW.out.block q h1))
        have zV := HB.out.size
        clear WK RK NK KE rW
        go_wp2_with fail
        clear c4 cR
        obtain ⟨DX, tX⟩ := RV.out.tW
        obtain ⟨cX, hX, -⟩ := tX.head hP
        have KX := RV.out.hdW
        have loX := tX.1
        have ne10_0 : rh.gW ≠ z.zb := neZ WV.out.bx tX
        have neT := fun e => RV.out.dW.1 (Eq.symm e)
        have neL := fun e => RV.out.dW.2.1 (Eq.symm e)
        have neC := fun e => RV.out.dW.2.2 (Eq.symm e)
        clear tX
        have x0 : wr.cell? ⟨z.zb, 3, none⟩ = some (.slice (some ⟨rh.gW, 0, none⟩) 3 rh.cW) := (by rw [← RV.out.eW]; exact WV.out.bx.cell 3)
        have AllS := Lib.hid (show ∀ w', Below wr.heap.size wr w' → (w'.cell? ⟨z.zb, 3, none⟩ = some (.slice (some ⟨rh.gW, 0, none⟩) 3 rh.cW)) from fun w' hb => (hb.cell (p := ⟨z.zb, 3, none⟩) (by show z.zb < wr.heap.size; omega)).trans x0)
        have AllF := Lib.hid (show ∀ v : World, Below wr.heap.size wr v → ∀ r : Value, ((v.setCell ⟨rh.gW, P, none⟩ r).cell? ⟨z.zb, 3, none⟩ = some (.slice (some ⟨rh.gW, 0, none⟩) 3 rh.cW)) from fun v hBv r => (World.cell?_setCell_far _ _ _ _ (show rh.gW ≠ z.zb from ne10_0)).trans (AllS.out v hBv))
        have hbl : rh.gW < wr.heap.size := by omega
        go_wp2_with fail
        go_region_held3 (fun w' => w'.cell? ⟨z.zb, 3, none⟩ = some (.slice (some ⟨rh.gW, 0, none⟩) 3 rh.cW)) (first | (with_reducible exact Fin.out) | (go_split_ands; refine AllS.out _ ?_; go_grown; done) | (refine AllS.out _ ?_; go_grown; done)) (first | (go_at_call 139; go_split_ands; refine (nums_row gN n cN c _ wr.heap.size (NV.out.vs.below (show Below wr.heap.size wr _ from by go_grown) (Nat.le_refl _)) (show Below wr.heap.size wr _ from by go_grown).size hn hn1).mono ?_; rintro e v10 ⟨g10, c10, rfl, hg, hv, hnv⟩; have hBv : Below wr.heap.size wr v10 := below_on (by go_grown) hv; have HBv := Lib.hid hBv; have hg : wr.heap.size ≤ g10 := Nat.le_trans (show Below wr.heap.size wr _ from by go_grown).size hg; have NN := Lib.hid hnv; have cX2 := (hBv.cell (p := ⟨rh.gW, P, none⟩) hbl).trans hX; have fX2 : v10.frozen? ⟨rh.gW, P, none⟩ = false := (by obtain ⟨cx, hx⟩ := KX; exact (Bk.below hx hBv hx.lt).free P); have lX2 : rh.gW < v10.heap.size := Nat.lt_of_lt_of_le hbl hBv.size; have Fin := Lib.hid (AllF.out v10 hBv (.slice (some ⟨g10, 0, none⟩) n c10)); clear hv hnv))
        have zv := HBv.out.size
        have RN := Lib.hid (RV.out.putW (c := c10) HBv.out hP hg NN.out)
        have neN : gN ≠ rh.gW := fun e => by
          obtain ⟨cs, hb, _⟩ := NV.out
          obtain ⟨cs2, hb2⟩ := KX
          rw [e] at hb
          unfold Bk at hb hb2
          rw [hb2] at hb
          injection hb with hb
          injection hb with _ hb
          cases hb
        have NV2 := Lib.hid ((NV.out.below HBv.out).same (Below.heap_setCell v10 ⟨rh.gW, P, none⟩ (.slice (some ⟨g10, 0, none⟩) n c10) gN neN))
        have WV2 := Lib.hid (show Wk (v10.setCell ⟨rh.gW, P, none⟩ (.slice (some ⟨g10, 0, none⟩) n c10)) lo v10.heap.size n S D z from by
          obtain ⟨cx, hx⟩ := KX
          exact (WV.out.below (hi' := v10.heap.size) HBv.out (Nat.le_refl _) zv).but (Nat.le_refl _) neT neL neC (Bk.below hx HBv.out hx.lt) fun q h1 h2 => Below.heap_setCell v10 ⟨rh.gW, P, none⟩ _ q h2)
        have FR2 := Lib.hid (show ∀ q, q < w.heap.size → q ≠ rh.gW → (∀ P, P < 3 → q ≠ rh.G P) → (v10.setCell ⟨rh.gW, P, none⟩ (.slice (some ⟨g10, 0, none⟩) n c10)).heap[q]? = w.heap[q]? from fun q h1 h2 h3 => (Below.heap_setCell v10 ⟨rh.gW, P, none⟩ _ q h2).trans ((HBv.out.block q (by omega)).trans (FR.out q h1 h2 h3)))
        have KE2 := Lib.hid (show Bk (v10.setCell ⟨rh.gW, P, none⟩ (.slice (some ⟨g10, 0, none⟩) n c10)) w.heap.size 81 #[.int .i64 tn, .int .i64 ti, .int .i64 q, .int .i64 a, .int .i64 bb, .int .i64 cc, .bool ss] from (Below.heap_setCell v10 ⟨rh.gW, P, none⟩ _ w.heap.size (by show w.heap.size ≠ rh.gW; omega)).trans (KV.out.below HBv.out KV.out.lt))
        have BL2 := Lib.hid ((BL.out.trans (HBv.out.mono (by omega))).setCell (p := ⟨rh.gW, P, none⟩) (by show lo ≤ rh.gW; exact loX) (.slice (some ⟨g10, 0, none⟩) n c10))
        have ZT : (v10.setCell ⟨rh.gW, P, none⟩ (.slice (some ⟨g10, 0, none⟩) n c10)).heap.size = v10.heap.size := World.size_setCell ..
        clear AllS AllF Fin hX cX2 fX2 lX2 hBv KX neT neL neC loX hbl
        try clear hHeld
        clear x0
        obtain ⟨u10, hOut⟩ : ∃ V, V = v10.setCell ⟨rh.gW, P, none⟩ (.slice (some ⟨g10, 0, none⟩) n c10) := ⟨_, rfl⟩
        rw [← hOut] at RN NV2 WV2 FR2 KE2 BL2 ZT
        rw [← ZT] at RN WV2
        rw [← hOut]
        have zu10 : wr.heap.size ≤ u10.heap.size := by rw [ZT]; exact zv
        clear hOut NV WV FR KV BL RV HBv NN neN zv ZT
        have NV := NV2
        have WV := WV2
        have FR := FR2
        have KV := KE2
        have BL := BL2
        have RV := RN
        clear NV2 WV2 FR2 KE2 BL2 RN
        go_wp2_with fail
        obtain ⟨DX, tX⟩ := RV.out.tR P hP
        obtain ⟨cX, hX, -⟩ := tX.head ht
        have KX := RV.out.hdR hP
        have loX := tX.1
        obtain ⟨_, _, csR, hbR, hcR⟩ := RV.out.hR
        have ne11_0 : rh.G P ≠ z.zb := neZ WV.out.bx tX
        have ne11_1 : rh.G P ≠ rh.gR := fun e => by
          obtain ⟨cx, hx⟩ := KX
          rw [e] at hx
          unfold Bk at hx hbR
          rw [hbR] at hx
          injection hx with hx
          injection hx with _ hx
          cases hx
        have ne11_2 : rh.G P ≠ w.heap.size := by omega
        have neT := fun e => (RV.out.dR P hP).2.1 (Eq.symm e)
        have neL := fun e => (RV.out.dR P hP).2.2.1 (Eq.symm e)
        have neC := fun e => (RV.out.dR P hP).2.2.2 (Eq.symm e)
        have xR0 := (hbR.cell P).trans (hcR P hP)
        clear tX hbR hcR
        have x0 : u10.cell? ⟨z.zb, 4, none⟩ = some (.slice (some ⟨rh.gR, 0, none⟩) 3 rh.cR) := (by rw [← RV.out.eR]; exact WV.out.bx.cell 4)
        have x1 : u10.cell? ⟨rh.gR, P, none⟩ = some (.slice (some ⟨rh.G P, 0, none⟩) n (rh.C P)) := xR0
        have x2 : u10.cell? ⟨w.heap.size, 0, none⟩ = some (.int .i64 tn) := KV.out.cell 0
        have AllS := Lib.hid (show ∀ w', Below u10.heap.size u10 w' → (w'.cell? ⟨z.zb, 4, none⟩ = some (.slice (some ⟨rh.gR, 0, none⟩) 3 rh.cR) ∧ w'.cell? ⟨rh.gR, P, none⟩ = some (.slice (some ⟨rh.G P, 0, none⟩) n (rh.C P)) ∧ w'.cell? ⟨w.heap.size, 0, none⟩ = some (.int .i64 tn)) from fun w' hb => ⟨(hb.cell (p := ⟨z.zb, 4, none⟩) (by show z.zb < u10.heap.size; omega)).trans x0, (hb.cell (p := ⟨rh.gR, P, none⟩) (by show rh.gR < u10.heap.size; omega)).trans x1, (hb.cell (p := ⟨w.heap.size, 0, none⟩) (by show w.heap.size < u10.heap.size; omega)).trans x2⟩)
        have AllF := Lib.hid (show ∀ v : World, Below u10.heap.size u10 v → ∀ r : Value, ((v.setCell ⟨rh.G P, tn, none⟩ r).cell? ⟨z.zb, 4, none⟩ = some (.slice (some ⟨rh.gR, 0, none⟩) 3 rh.cR) ∧ (v.setCell ⟨rh.G P, tn, none⟩ r).cell? ⟨rh.gR, P, none⟩ = some (.slice (some ⟨rh.G P, 0, none⟩) n (rh.C P)) ∧ (v.setCell ⟨rh.G P, tn, none⟩ r).cell? ⟨w.heap.size, 0, none⟩ = some (.int .i64 tn)) from fun v hBv r => ⟨(World.cell?_setCell_far _ _ _ _ (show rh.G P ≠ z.zb from ne11_0)).trans (AllS.out v hBv).1, (World.cell?_setCell_far _ _ _ _ (show rh.G P ≠ rh.gR from ne11_1)).trans (AllS.out v hBv).2.1, (World.cell?_setCell_far _ _ _ _ (show rh.G P ≠ w.heap.size from ne11_2)).trans (AllS.out v hBv).2.2⟩)
        have hbl : rh.G P < u10.heap.size := by omega
        go_wp2_with fail
        go_region_held3 (fun w' => w'.cell? ⟨z.zb, 4, none⟩ = some (.slice (some ⟨rh.gR, 0, none⟩) 3 rh.cR) ∧ w'.cell? ⟨rh.gR, P, none⟩ = some (.slice (some ⟨rh.G P, 0, none⟩) n (rh.C P)) ∧ w'.cell? ⟨w.heap.size, 0, none⟩ = some (.int .i64 tn)) (first | (with_reducible exact Fin.out) | (go_split_ands; refine AllS.out _ ?_; go_grown; done) | (refine AllS.out _ ?_; go_grown; done)) (first | (go_at_call 139; go_split_ands; refine (nums_row gN n cN c _ u10.heap.size (NV.out.vs.below (show Below u10.heap.size u10 _ from by go_grown) (Nat.le_refl _)) (show Below u10.heap.size u10 _ from by go_grown).size hn hn1).mono ?_; rintro e v11 ⟨g11, c11, rfl, hg, hv, hnv⟩; have hBv : Below u10.heap.size u10 v11 := below_on (by go_grown) hv; have HBv := Lib.hid hBv; have hg : u10.heap.size ≤ g11 := Nat.le_trans (show Below u10.heap.size u10 _ from by go_grown).size hg; have NN := Lib.hid hnv; have cX2 := (hBv.cell (p := ⟨rh.G P, tn, none⟩) hbl).trans hX; have fX2 : v11.frozen? ⟨rh.G P, tn, none⟩ = false := (by obtain ⟨cx, hx⟩ := KX; exact (Bk.below hx hBv hx.lt).free tn); have lX2 : rh.G P < v11.heap.size := Nat.lt_of_lt_of_le hbl hBv.size; have Fin := Lib.hid (AllF.out v11 hBv (.slice (some ⟨g11, 0, none⟩) n c11)); clear hv hnv))
        have zv := HBv.out.size
        have RN := Lib.hid (RV.out.putR (c := c11) HBv.out hP ht hg NN.out)
        have neN : gN ≠ rh.G P := fun e => by
          obtain ⟨cs, hb, _⟩ := NV.out
          obtain ⟨cs2, hb2⟩ := KX
          rw [e] at hb
          unfold Bk at hb hb2
          rw [hb2] at hb
          injection hb with hb
          injection hb with _ hb
          cases hb
        have NV2 := Lib.hid ((NV.out.below HBv.out).same (Below.heap_setCell v11 ⟨rh.G P, tn, none⟩ (.slice (some ⟨g11, 0, none⟩) n c11) gN neN))
        have WV2 := Lib.hid (show Wk (v11.setCell ⟨rh.G P, tn, none⟩ (.slice (some ⟨g11, 0, none⟩) n c11)) lo v11.heap.size n S D z from by
          obtain ⟨cx, hx⟩ := KX
          exact (WV.out.below (hi' := v11.heap.size) HBv.out (Nat.le_refl _) zv).but (Nat.le_refl _) neT neL neC (Bk.below hx HBv.out hx.lt) fun q h1 h2 => Below.heap_setCell v11 ⟨rh.G P, tn, none⟩ _ q h2)
        have FR2 := Lib.hid (show ∀ q, q < w.heap.size → q ≠ rh.gW → (∀ P, P < 3 → q ≠ rh.G P) → (v11.setCell ⟨rh.G P, tn, none⟩ (.slice (some ⟨g11, 0, none⟩) n c11)).heap[q]? = w.heap[q]? from fun q h1 h2 h3 => (Below.heap_setCell v11 ⟨rh.G P, tn, none⟩ _ q (h3 P hP)).trans ((HBv.out.block q (by omega)).trans (FR.out q h1 h2 h3)))
        have KE2 := Lib.hid (show Bk (v11.setCell ⟨rh.G P, tn, none⟩ (.slice (some ⟨g11, 0, none⟩) n c11)) w.heap.size 81 #[.int .i64 tn, .int .i64 ti, .int .i64 q, .int .i64 a, .int .i64 bb, .int .i64 cc, .bool ss] from (Below.heap_setCell v11 ⟨rh.G P, tn, none⟩ _ w.heap.size (by show w.heap.size ≠ rh.G P; omega)).trans (KV.out.below HBv.out KV.out.lt))
        have BL2 := Lib.hid ((BL.out.trans (HBv.out.mono (by omega))).setCell (p := ⟨rh.G P, tn, none⟩) (by show lo ≤ rh.G P; exact loX) (.slice (some ⟨g11, 0, none⟩) n c11))
        have ZT : (v11.setCell ⟨rh.G P, tn, none⟩ (.slice (some ⟨g11, 0, none⟩) n c11)).heap.size = v11.heap.size := World.size_setCell ..
        clear AllS AllF Fin hX cX2 fX2 lX2 hBv KX neT neL neC loX hbl
        try clear hHeld
        clear x0 x1 x2
        obtain ⟨u11, hOut⟩ : ∃ V, V = v11.setCell ⟨rh.G P, tn, none⟩ (.slice (some ⟨g11, 0, none⟩) n c11) := ⟨_, rfl⟩
        rw [← hOut] at RN NV2 WV2 FR2 KE2 BL2 ZT
        rw [← ZT] at RN WV2
        rw [← hOut]
        have zu11 : u10.heap.size ≤ u11.heap.size := by rw [ZT]; exact zv
        clear hOut NV WV FR KV BL RV HBv NN neN zv ZT
        have NV := NV2
        have WV := WV2
        have FR := FR2
        have KV := KE2
        have BL := BL2
        have RV := RN
        clear NV2 WV2 FR2 KE2 BL2 RN
        go_wp2
        go_ret
        refine ⟨rfl, BL.out, by omega, WV.out, ?_, FR.out⟩
        have eK : setK (setK K P ⟨c, (K P).R⟩) P ⟨(setK K P ⟨c, (K P).R⟩ P).W, fun u => if u = tn then c else (setK K P ⟨c, (K P).R⟩ P).R u⟩ = setK K P (noteP (K P) true tn c) := by
          funext Q
          unfold setK noteP
          by_cases e : Q = P
          · rw [if_pos e, if_pos e, if_pos rfl]; rfl
          · rw [if_neg e, if_neg e, if_neg e]
        rw [← eK]
        exact RV.out
end Go.Proofs.Ytidibnmlceccnaa
namespace Go.Proofs.Ytidibnmlceccnaa
open Go.RowKit Pl Go.BigFrame
set_option maxHeartbeats 8000000
set_option maxRecDepth 100000
set_option linter.unusedVariables false

theorem zer_kept {n : Nat} {l : Evts} (hl : ∀ e ∈ l, e.t.toNat < n) : ∀ k, k ≤ l.length → ∀ P, ZerK n (keptK l k P) := by
  intro k
  induction k with
  | zero => intro _ P; exact ⟨fun _ _ => rfl, fun _ _ _ => rfl, fun _ _ => rfl⟩
  | succ k ih =>
    intro hk P
    have h0 := ih (by omega) P
    have hc := zer_ck hl (k := k) (by omega)
    have he := List.getElem?_eq_getElem (show k < l.length by omega)
    have ht := hl _ (List.getElem_mem (show k < l.length by omega))
    show ZerK n (if plE (gE l k) = (P : Int) then _ else _)
    rw [gE_at he]
    split
    · refine ⟨?_, fun t => ?_, fun t htn => ?_⟩
      · show ZerC n (if wrE l[k] then ckK l k else (keptK l k P).W)
        split
        · exact hc
        · exact h0.w
      · show ZerC n (if t = l[k].t.toNat then ckK l k else (keptK l k P).R t)
        split
        · exact hc
        · exact h0.r t
      · show (if t = l[k].t.toNat then ckK l k else (keptK l k P).R t) = zeroC
        rw [if_neg (by omega)]
        exact h0.o t htn
    · exact h0
theorem srace_any (h : PgH) (L : Pg) (k : IsH) (xs : List Int) (w : World) (B : Nat) (hP : PgR w B h L) (hV : IsR w B k xs) (hB : B ≤ w.heap.size) (SP : PgS L) (LS : IsS xs) (r : Int) (hr : Hid (racZ L xs = r)) :
    Calls Try.prog 62 #[PgV h L, IsV k xs] w fun e w' => e = .returned (.int .i64 r) ∧ Below w.heap.size w w' := by
  obtain ⟨W, hW⟩ : ∃ W, W = w.alloc (.cells #[.slice h.A L.length h.c] 32) := ⟨_, rfl⟩
  have bW : Below w.heap.size w W := by rw [hW]; go_grown
  have KW := Lib.hid (show Bk W w.heap.size 32 #[.slice h.A L.length h.c] by rw [hW]; exact Bk.new _ _ _)
  have RW := Lib.hid (hP.below bW hB)
  have VW := Lib.hid (hV.below bW hB)
  have BW := Lib.hid bW
  have hBW : B ≤ W.heap.size := Nat.le_trans hB bW.size
  have HW := Lib.hid hW
  have F := Lib.hid (fun (hr : evR L xs = true) => ev_f (L := L) (xs := xs) hr)
  have N := Lib.hid (fun (hr : evR L xs = false) => evE_no (L := L) (xs := xs) hr)
  have GG := Lib.hid (ev_g (L := L) (xs := xs))
  have hev := sevs_any h L k xs W B RW.out VW.out hBW SP LS
  have hr0 := hr.out
  clear hr
  unfold racZ at hr0
  generalize evE L xs = l at hev F N hr0 GG
  generalize evR L xs = ok at hev F N
  have hT : thE l := fun i e he => by
    have := GG.out.all e (List.mem_of_getElem? he)
    exact ⟨by omega, this.2⟩
  rw [← fst_same hT l.length 0 (by omega) (fun j hj => absurd hj (by omega))] at hr0
  have HR := Lib.hid hr0
  clear hW bW hP hV hr0 hT
  have cP := KW.out.cell 0
  have lP := KW.out.lt
  go_enter Try.func62, Try.ntmps62
  go_wp2_with fail
  rw [← HW.out]
  go_wp2_with fail
  refine hev.mono ?_
  clear hev cP lP
  rintro e w1 ⟨⟨A, c0⟩, he, hb1, hz1, ho1⟩
  have he : e = .returned (.tuple #[.slice A l.length c0, .bool ok]) := he
  subst he
  have B1 := Lib.hid (below_on BW.out hb1)
  have O1 := Lib.hid (show EvsR w1 w1.heap.size ⟨A, c0⟩ l from ho1.rd)
  have K1 := Lib.hid (KW.out.below hb1 KW.out.lt)
  clear hb1 ho1
  cases ok with
  | false =>
    have e0 := N.out rfl
    subst e0
    have er : r = -1 := HR.out.symm
    go_wp2
    go_ret
    exact ⟨by rw [er]; rfl, B1.out⟩
  | true =>
    have FF := Lib.hid (F.out rfl)
    have h9 := FF.out.few
    have h31 := FF.out.h31
    have h32 := FF.out.h32
    clear F N
    have cP := K1.out.cell 0
    have lP := K1.out.lt
    have HB := Lib.hid (sbeg_any L.length w1 h31 h32)
    go_wp2_with fail
    refine HB.out.mono ?_
    rintro e y ⟨z, D0, rfl, hby, hwk, hrw⟩
    obtain ⟨rh, hrv⟩ := rv_start hrw
    have BY := Lib.hid hby
    have s1 := B1.out.size
    have s2 := hby.size
    have WK := Lib.hid hwk
    have RV := Lib.hid hrv
    have HL := Lib.hid (show ∀ e ∈ l, e.t.toNat < L.length from fun e he => by have := FF.out.all e he; omega)
    clear hby hwk hrv hrw cP lP
    go_wp2
    go_loopw [8] (fun i wr => ∃ (k : Nat) (Dz : Nat → Nat), k ≤ l.length ∧ i = .int .i64 k ∧ Below w1.heap.size w1 wr ∧ Wk wr w1.heap.size wr.heap.size L.length (stK l k) Dz z ∧ Rv wr w1.heap.size wr.heap.size L.length (keptK l k) z rh ∧ Hid (fstZ (badK l) (l.length - k) k = r)) (fun i _ => l.length - (intOf i).toNat)
    case atStart => exact ⟨0, D0, Nat.zero_le _, rfl, BY.out, by
      have e : stK l 0 = zS := by unfold stK; rw [List.take_zero]; rfl
      rw [e]; exact WK.out, RV.out, by rw [Nat.sub_zero]; exact HR⟩
    case round =>
      obtain ⟨k, Dz, hk, rfl, hbel, hwk, hrv, hrest⟩ := hrel
      clear WK RV BY HR
      have hz := hbel.size
      by_cases hlt : k < l.length
      · obtain ⟨hV1⟩ := O1.out
        have hV1 : Vs w1 w1.heap.size A (evs l) := hV1
        have HV1 := Lib.hid hV1
        obtain ⟨b, off, x, rfl, hb, hx, -, hx0, hx1, hx2, hx3, hx4, hx5, hx6⟩ := (hV1.below hbel (Nat.le_refl _)).ev_ hlt
        have hi2 : (k : Int) < (l.length : Int) := by omega
        have hbw : b < wr.heap.size := by omega
        obtain ⟨ht0, htn, hok⟩ := FF.out.all x (List.mem_of_getElem? hx)
        have hsame := step_same (S := stK l k) hok (fun h7 => FF.out.lock k x hx h7)
        have hge := gE_at hx
        have hck : ckK l k = nowC (stK l k) x := by unfold ckK; rw [hge]
        have hst := stK_next hx
        have HS := Lib.hid (step_any z w1.heap.size L.length (stK l k) Dz x wr hwk hz h32 ht0 htn hok (fun p q => by have := stK_le l k p q; omega))
        have Hb := Lib.hid hbel
        have Hwk := Lib.hid hwk
        have Hrv := Lib.hid hrv
        have Hsame := Lib.hid hsame
        have Hck := Lib.hid hck
        have Hst := Lib.hid hst
        obtain ⟨hyes, hno⟩ := fst_go hlt hrest.out
        have Hyes := Lib.hid hyes
        have Hno := Lib.hid hno
        have hkept : ∀ Q : Nat, keptK l (k + 1) Q = if plE x = (Q : Int) then noteP (keptK l k Q) (wrE x) x.t.toNat (ckK l k) else keptK l k Q := fun Q => by
          show (if plE (gE l k) = (Q : Int) then _ else _) = _
          rw [hge]
        have hbad : badK l k = (decide (0 ≤ plE x) && badQ (keptK l k (plE x).toNat) (wrE x) (ckK l k)) := by unfold badK; rw [hge]
        have Hkept := Lib.hid hkept
        have Hbad := Lib.hid hbad
        have HX := Lib.hid hx
        clear hbel hwk hrv hx hsame hck hst hge hyes hno hkept hbad hrest
        go_wp2_with fail
        refine HS.out.mono ?_
        rintro e v ⟨g1, c1, Dn, rfl, hg1, hN, hbv, hwv, hfr⟩
        rw [Hsame.out.1, ← Hck.out] at hN
        rw [Hsame.out.2, ← Hst.out] at hwv
        have sv := hN.lt
        have Hrv1 := Lib.hid (Hrv.out.step Hwk.out (by omega) hfr)
        have Hb1 := Lib.hid (Hb.out.trans hbv)
        have HN := Lib.hid hN
        have Hwv := Lib.hid hwv
        have hz1 := Hb1.out.size
        obtain ⟨b2, off2, x2, hA2, hb2, hx2', -, gx0, gx1, gx2, gx3, gx4, gx5, gx6⟩ := (HV1.out.below Hb1.out (Nat.le_refl _)).ev_ hlt
        injection hA2 with hA2
        injection hA2 with hA3 hA4
        subst hA3 hA4
        rw [HX.out] at hx2'
        injection hx2' with hx2'
        subst hx2'
        have hbw2 : b < v.heap.size := by omega
        clear hN hbv hwv hfr HS hx0 hx1 hx2 hx3 hx4 hx5 hx6 Hwk Hrv Hb
        obtain ⟨t, ti, q, a, bb, cc, ss⟩ := x
        have ht0 : 0 ≤ t := ht0
        have htn : t < (L.length : Int) := htn
        obtain ⟨tn, rfl⟩ : ∃ n : Nat, t = (n : Int) := ⟨t.toNat, by omega⟩
        have ht : tn < L.length := by omega
        simp only at gx0 gx1 gx2 gx3 gx4 gx5 gx6
        unfold plE wrE at Hkept Hbad
        simp only [Int.toNat_natCast] at Hkept Hbad
        rcases place_r q a bb cc ss with hpl | ⟨P, hP3, hpl⟩
        · have e1 : badK l k = false := by rw [Hbad.out, hpl]; rfl
          have eK : keptK l (k + 1) = keptK l k := by
            funext Q
            rw [Hkept.out, hpl, if_neg (by omega)]
          have HRc := Lib.hid (races_none z w1.heap.size L.length (stK l (k + 1)) Dn (keptK l k) rh tn ti q a bb cc ss g1 c1 (ckK l k) v Hwv.out Hrv1.out HN.out hz1 h32 ht hpl)
          have EK := Lib.hid eK
          have N1 := Lib.hid (Hno.out e1)
          clear hpl eK e1
          go_wp2_with fail
          refine HRc.out.mono ?_
          rintro e u ⟨rfl, hbu, hsu, hwu, hru, -⟩
          rw [← EK.out] at hru
          have E2 := Lib.hid (Hb1.out.trans hbu)
          have W2 := Lib.hid hwu
          have R2 := Lib.hid hru
          clear hbu hwu hru gx0 gx1 gx2 gx3 gx4 gx5 gx6
          go_wp2
          go_roundw
          case rel => exact ⟨k + 1, Dn, by omega, by go_num, E2.out, W2.out, R2.out, N1⟩
          case measure => simp [intOf]; omega
        · obtain ⟨wr', hwr⟩ : ∃ wr', writesB q a bb cc ss = wr' := ⟨_, rfl⟩
          have e1 : badK l k = badQ (keptK l k P) wr' (ckK l k) := by
            rw [Hbad.out, hpl, hwr, decide_eq_true (show (0 : Int) ≤ (P : Int) by omega), Bool.true_and, Int.toNat_natCast]
          have eK : keptK l (k + 1) = setK (keptK l k) P (noteP (keptK l k P) wr' tn (ckK l k)) := by
            funext Q
            rw [Hkept.out, hpl, hwr]
            unfold setK
            by_cases e : Q = P
            · rw [if_pos e, if_pos (by omega), e]
            · rw [if_neg e, if_neg (by omega)]
          have HRc := Lib.hid (races_at z w1.heap.size L.length (stK l (k + 1)) Dn (keptK l k) rh tn ti q a bb cc ss g1 c1 (ckK l k) v Hwv.out Hrv1.out HN.out hz1 h32 ht P hP3 (zer_kept HL.out k hk P) (zer_ck HL.out hlt) hpl wr' hwr)
          have EK := Lib.hid eK
          obtain ⟨bd, hbd⟩ : ∃ bd, badQ (keptK l k P) wr' (ckK l k) = bd := ⟨_, rfl⟩
          rw [hbd] at e1 HRc
          have E1 := Lib.hid e1
          clear hpl eK e1 hwr hbd
          go_wp2_with fail
          refine HRc.out.mono ?_
          rintro e u ⟨rfl, hbu, hsu, hwu, hru, -⟩
          rw [← EK.out] at hru
          have E2 := Lib.hid (Hb1.out.trans hbu)
          have W2 := Lib.hid hwu
          have R2 := Lib.hid hru
          have E3 := Lib.hid (B1.out.trans (E2.out.mono s1))
          clear hbu hwu hru gx0 gx1 gx2 gx3 gx4 gx5 gx6
          cases bd with
          | true =>
            have er : r = (k : Int) := Hyes.out E1.out
            go_wp2
            go_ret
            exact ⟨by rw [er]; rfl, E3.out⟩
          | false =>
            have N1 := Lib.hid (Hno.out E1.out)
            go_wp2
            go_roundw
            case rel => exact ⟨k + 1, Dn, by omega, by go_num, E2.out, W2.out, R2.out, N1⟩
            case measure => simp [intOf]; omega
      · have hkl : k = l.length := by omega
        subst hkl
        have er : r = -1 := by have := hrest.out; rw [Nat.sub_self] at this; exact this.symm
        have E3 := Lib.hid (B1.out.trans (hbel.mono s1))
        clear hbel hwk hrv hrest
        go_wp2
        go_ret
        exact ⟨by rw [er]; rfl, E3.out⟩
end Go.Proofs.Ytidibnmlceccnaa
