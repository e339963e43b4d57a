/-
  A region that draws its order, whose operations all but the last few read or call quietly in a class of worlds, and whose last ones come in one order behind all others: one walk of the text's order serves every order.
-/
import Derived.Test.YtaghidaamcnpkabRowT
import Derived.Test.YtaghidaamcnpkabVec
import Derived.Deep.RegionHeld3
import Derived.StillTail
import Derived.Deep.Quiet
import Derived.Test.YtaghidaamcnpkabFrame
namespace Go.Proofs.Ytaghidaamcnpkab
open Go.RowKit Pl Go.BigFrame
set_option maxHeartbeats 2000000
set_option maxRecDepth 100000
set_option linter.unusedVariables false

/-- The words of stores, each told by its numbers: whether it is glued, its value, and its stamps. -/
def vsW (S : List (Nat → Nat)) : List Value := S.map fun g => Value.int .u64 (enc WV g : Nat)
@[simp] theorem vsW_length (S : List (Nat → Nat)) : (vsW S).length = S.length := by simp [vsW]
theorem vsW_at {S : List (Nat → Nat)} {k : Nat} {g : Nat → Nat} (h : S[k]? = some g) : (vsW S)[k]? = some (.int .u64 (enc WV g : Nat)) := by simp [vsW, h]
/-- How many stores, from the first one on, have a lesser stamp. -/
def idxF : List (Nat → Nat) → Nat → Nat → Nat
  | [], _, _ => 0
  | g :: r, p, s => if g (2 + p) < s then idxF r p s + 1 else 0
theorem idxF_le (S : List (Nat → Nat)) (p s : Nat) : idxF S p s ≤ S.length := by
  induction S with
  | nil => simp [idxF]
  | cons g r ih => unfold idxF; split <;> simp <;> omega
theorem indexin_any (A : Option Addr) (S : List (Nat → Nat)) (c p : Nat) (g : Nat → Nat) (w : World) (B : Nat) (hS : Vs w B A (vsW S)) (hB : B ≤ w.heap.size) (hok : ∀ x ∈ S, okF WV x) (hg : okF WV g) (hp : p < 3) (hl : S.length ≤ 16) (r : Nat) (hr : Hid (idxF S p (g (2 + p)) = r)) :
    Calls Try.prog 94 #[.slice A S.length c, .int .i64 p, .int .u64 (enc WV g : Nat)] w fun e w' => e = .returned (.int .i64 r) ∧ Below w.heap.size w w' := by
  obtain ⟨s, hs⟩ : ∃ s, g (2 + p) = s := ⟨_, rfl⟩
  rw [hs] at hr
  have E0 := Lib.hid (fun v => entF flv8 hg p hp v (s : Int) (Lib.hid (by rw [hs]; simp [fL])))
  have HS := Lib.hid hS
  have Hok := Lib.hid hok
  have hs13 : s < 8192 := by have := fld_lt flv8 hg (i := p) hp; rw [hs] at this; exact this
  obtain ⟨E, hE⟩ : ∃ E, enc WV g = E := ⟨_, rfl⟩
  rw [hE] at E0 ⊢
  clear hE hs hg hS hok
  go_enter Try.func94, Try.ntmps94
  go_wp2_with fail
  refine (E0.out w).mono ?_
  rintro e w1 ⟨rfl, hb1⟩
  have H1 := Lib.hid (HS.out.below hb1 hB)
  have B1 := Lib.hid hb1
  have z1 := hb1.size
  clear hb1 E0 HS
  go_wp2
  go_loopw [8] (fun i wr => ∃ k : Nat, k ≤ S.length ∧ i = .int .i64 k ∧ Below w1.heap.size w1 wr ∧ Hid (k + idxF (S.drop k) p s = r)) (fun i _ => S.length - (intOf i).toNat)
  case atStart => exact ⟨0, Nat.zero_le _, rfl, Below.refl _ _, by simpa using hr⟩
  case round =>
    obtain ⟨k, hk, rfl, hbel, hrest⟩ := hrel
    clear hr
    have zw := hbel.size
    by_cases hlt : k < S.length
    · obtain ⟨x, hx, hd⟩ := drop_at hlt
      obtain ⟨b, off, hA, hb, hxs⟩ := (H1.out.below hbel (by omega)) (by rw [vsW_length]; omega)
      have hA' : A = _ := hA
      subst hA'
      have c0 := hxs k _ (vsW_at hx)
      have okx := Hok.out x (List.mem_of_getElem? hx)
      obtain ⟨t, ht⟩ : ∃ t, x (2 + p) = t := ⟨_, rfl⟩
      have E1 := Lib.hid (fun v => entF flv8 okx p hp v (t : Int) (Lib.hid (by rw [ht]; simp [fL])))
      have hi1 : (k : Int) < (S.length : Int) := by omega
      have HR := Lib.hid (show k + (if t < s then idxF (S.drop (k + 1)) p s + 1 else 0) = r by
        have := hrest.out
        rw [hd, idxF, ht] at this
        exact this)
      have ht13 : t < 8192 := by have := fld_lt flv8 okx (i := p) hp; rw [ht] at this; exact this
      have Hb := Lib.hid hbel
      obtain ⟨Ex, hEx⟩ : ∃ E, enc WV x = E := ⟨_, rfl⟩
      rw [hEx] at E1 c0
      clear hEx hd hx hA hxs okx ht hrest hbel
      by_cases hts : t < s
      · have hts' : (t : Int) < (s : Int) := by omega
        have hnext : Hid (k + 1 + idxF (S.drop (k + 1)) p s = r) := Lib.hid (by
          have := HR.out; rw [if_pos hts] at this; omega)
        go_wp2_with fail
        refine (E1.out _).mono ?_
        rintro e w2 ⟨rfl, hb2⟩
        have hB2 := Lib.hid (below_on Hb.out hb2)
        clear hb2
        go_wp2
        go_roundw
        case rel => exact ⟨k + 1, by omega, by go_num, hB2.out, hnext⟩
        case measure => simp [intOf]; omega
      · have hts' : ¬ (t : Int) < (s : Int) := by omega
        have hlast : Hid (r = k) := Lib.hid (by
          have := HR.out; rw [if_neg hts] at this; omega)
        go_wp2_with fail
        refine (E1.out _).mono ?_
        rintro e w2 ⟨rfl, hb2⟩
        have hB2 := Lib.hid (below_on Hb.out hb2)
        clear hb2
        go_wp2
        go_ret
        exact ⟨by rw [hlast.out]; rfl, B1.out.trans (hB2.out.mono z1)⟩
    · have hlast : Hid (r = k) := Lib.hid (by
        have := hrest.out
        have ez : S.drop k = [] := List.drop_eq_nil_of_le (by omega)
        rw [ez] at this
        simp [idxF] at this; omega)
      have hi1 : ¬ (k : Int) < (S.length : Int) := by omega
      go_wp2
      go_ret
      exact ⟨by rw [hlast.out]; rfl, B1.out.trans (hbel.mono z1)⟩

/-- A state on a machine with views as the program keeps it: the word of its State, the words of the stores at each place, and those of the views. -/
structure Sg where
  f : Nat → Nat
  S : Nat → List (Nat → Nat)
  V : Nat → Nat → Nat
structure SgH where
  A : Nat → Option Addr
  c : Nat → Nat
def mkG (h : SgH) (s : Sg) : Array Value :=
  #[.int .u64 (enc WS s.f : Nat), .slice (h.A 0) (s.S 0).length (h.c 0), .slice (h.A 1) (s.S 1).length (h.c 1), .slice (h.A 2) (s.S 2).length (h.c 2),
    .int .u64 (enc WV (s.V 0) : Nat), .int .u64 (enc WV (s.V 1) : Nat), .int .u64 (enc WV (s.V 2) : Nat), .int .u64 (enc WV (s.V 3) : Nat), .int .u64 (enc WV (s.V 4) : Nat), .int .u64 (enc WV (s.V 5) : Nat), .int .u64 (enc WV (s.V 6) : Nat), .int .u64 (enc WV (s.V 7) : Nat)]
theorem mkG_size (h : SgH) (s : Sg) : (mkG h s).size = 12 := rfl
theorem mkG_one (h : SgH) (s : Sg) : (mkG h s).all (·.oneCell') = true := by simp [mkG, Value.oneCell']
theorem mkG_0 (h : SgH) (s : Sg) : (mkG h s)[0]? = some (.int .u64 (enc WS s.f : Nat)) := rfl
theorem mkG_s (h : SgH) (s : Sg) {p : Nat} (hp : p < 3) : (mkG h s)[1 + p]? = some (.slice (h.A p) (s.S p).length (h.c p)) := by
  rcases (show p = 0 ∨ p = 1 ∨ p = 2 by omega) with rfl | rfl | rfl <;> rfl
theorem mkG_v (h : SgH) (s : Sg) {i : Nat} (hi : i < 8) : (mkG h s)[4 + i]? = some (.int .u64 (enc WV (s.V i) : Nat)) := by
  rcases (show i = 0 ∨ i = 1 ∨ i = 2 ∨ i = 3 ∨ i = 4 ∨ i = 5 ∨ i = 6 ∨ i = 7 by omega) with rfl | rfl | rfl | rfl | rfl | rfl | rfl | rfl <;> rfl
abbrev SgV (h : SgH) (s : Sg) : Value := .agg (mkG h s)
abbrev TG : TypeId := 92
theorem sg_row : RowT TG 12 := ⟨by kernel_rfl, _, Try.underlying92, rfl⟩
def SgR (w : World) (B : Nat) (h : SgH) (s : Sg) : Prop := ∀ p, p < 3 → Vs w B (h.A p) (vsW (s.S p))
theorem SgR.below {w w' : World} {B B' : Nat} {h : SgH} {s : Sg} (r : SgR w B h s) (hb : Below B' w w') (hB : B ≤ B') : SgR w' B h s := fun p hp => (r p hp).below hb hB
theorem SgR.up {w w' : World} {B B' B'' : Nat} {h : SgH} {s : Sg} (r : SgR w B h s) (hb : Below B' w w') (hB : B ≤ B') (hB2 : B ≤ B'') : SgR w' B'' h s := fun p hp => (r p hp).up hb hB hB2
structure SgOk (s : Sg) : Prop where
  f : okF WS s.f
  S : ∀ p, p < 3 → ∀ g ∈ s.S p, okF WV g
  l : ∀ p, p < 3 → (s.S p).length ≤ 16
  V : ∀ i, i < 8 → okF WV (s.V i)
/-- The indexes that a view has. -/
def idxL (s : Sg) (g : Nat → Nat) : List Int := (List.range 3).map fun p => (idxF (s.S p) p (g (2 + p)) : Int)
theorem idxL_length (s : Sg) (g : Nat → Nat) : (idxL s g).length = 3 := rfl
/-- A row that was made at its full length, by itself. -/
def MadeL (w : World) (xs : List Int) (e : Ending) (w' : World) : Prop :=
  ∃ A, e = .returned (.slice A xs.length xs.length) ∧ Below w.heap.size w w' ∧ OwnVs w' w.heap.size w'.heap.size 3 A (ints xs)
end Go.Proofs.Ytaghidaamcnpkab
namespace Go.Proofs.Ytaghidaamcnpkab
open Go
set_option linter.unusedVariables false

section
variable {P : Program} {ops : Array Oper} {md : Region.Mode} {C : World → Prop}
/-- Whatever order is picked among the first n operations; then L. -/
def headC (P : Program) (md : Region.Mode) (ops : Array Oper) (C : World → Prop) (n : Nat) (L : Array Bool → Act → Prop) : Nat → Array Bool → Act → Prop
  | 0, listed, a => L listed a
  | f + 1, listed, a => Region.ready md ops listed ≠ [] ∧ ∀ i ∈ Region.ready md ops listed, i < n ∧ qOp P ops C i (headC P md ops C n L f (listed.setIfInBounds i true)) a
theorem any_of_head {n g : Nat} {L : Array Bool → Act → Prop} {Q' : Exit → Act → World → Prop} (hL : ∀ listed a w, C w → L listed a → wpAny P md ops Q' g listed a w) :
    ∀ (f : Nat) (listed : Array Bool) (a : Act) (w : World), C w → headC P md ops C n L f listed a → wpAny P md ops Q' (f + g) listed a w := by
  intro f
  induction f with
  | zero => intro listed a w hw h; rw [Nat.zero_add]; exact hL _ _ _ hw h
  | succ f ih =>
    intro listed a w hw h
    rw [show f + 1 + g = (f + g) + 1 by omega]
    exact ⟨fun h0 => absurd h0 h.1, fun i hi => wpOp_of_qOp hw (fun a' w' hw' h' => ih _ a' w' hw' h') (h.2 i hi).2⟩
theorem head_first {n i : Nat} {oi : Oper} {v : Value} {L : Array Bool → Act → Prop} (hi : ops[i]? = some oi) (hsel : ∀ (j : Nat) (o : Oper) cs b, ops[j]? = some o → o.op ≠ .select cs b)
    (hs : Region.sinkB md ops n = true) (hc : Region.chainB md ops n = true) (hn : n < ops.size) (hin : i < n) (hdone : ∀ listed a, L listed a → ∀ j ∈ Region.ready md ops listed, n ≤ j) :
    ∀ (f : Nat) (listed : Array Bool) (a : Act), HeadInv md ops n listed →
      (∀ j oj, ops[j]? = some oj → j ≠ i → listed.getD j true = false → (∀ e ∈ oj.after, Region.binds md e = true → e.on ≠ i) → oi.apart ops oj = true) →
      i ∈ Region.ready md ops listed → YieldsIn P ops C oi v a → headC P md ops C n L f (listed.setIfInBounds i true) (a.put oi.dst v) → headC P md ops C n L (f + 1) listed a := by
  intro f
  induction f with
  | zero =>
    intro listed a inv _ hr hy H
    have hun := (mem_ready.1 hr).1
    refine ⟨fun h => (by rw [h] at hr; cases hr), fun j hj => ?_⟩
    have hjn : j < n := by
      rcases Nat.lt_or_ge j n with h | h
      · exact h
      · exact absurd hj (tail_waits hs hc hn inv _ i rfl hin hun j h)
    refine ⟨hjn, ?_⟩
    by_cases hji : j = i
    · subst hji; exact hy.qOp hi H
    · have := hdone _ _ H j (ready_mono hj hji)
      omega
  | succ f ih =>
    intro listed a inv hfree hr hy H
    have hun := (mem_ready.1 hr).1
    refine ⟨fun h => (by rw [h] at hr; cases hr), fun j hj => ?_⟩
    have hjn : j < n := by
      rcases Nat.lt_or_ge j n with h | h
      · exact h
      · exact absurd hj (tail_waits hs hc hn inv _ i rfl hin hun j h)
    refine ⟨hjn, ?_⟩
    by_cases hji : j = i
    · subst hji; exact hy.qOp hi H
    · have h1 := (H.2 j (ready_mono hj hji)).2
      obtain ⟨hjun, oj, hoj, hall⟩ := mem_ready.1 hj
      have hnot : ∀ e ∈ oj.after, Region.binds md e = true → e.on ≠ i := fun e he hb heq => by
        have h2 := hall e he hb
        rw [heq, getD_both hun] at h2
        cases h2
      have h2 := qOp_put hoj (hfree j oj hoj hji hjun hnot) (fun cs b => hsel i oi cs b hi) (fun cs b => hsel j oj cs b hoj) hy h1
      have hfree' : ∀ k ok, ops[k]? = some ok → k ≠ i → (listed.setIfInBounds j true).getD k true = false →
          (∀ e ∈ ok.after, Region.binds md e = true → e.on ≠ i) → oi.apart ops ok = true := fun k ok hk hki hun2 hno => by
        refine hfree k ok hk hki ?_ hno
        by_cases hjk : j = k
        · subst hjk; exact hjun
        · rw [getD_set_ne true hjk] at hun2; exact hun2
      refine qOp_mono (fun a' h3 => ih (listed.setIfInBounds j true) a' (inv.set hj hjn) hfree' (ready_mono hr (Ne.symm hji)) h3.1 ?_) h2
      rw [Array.setIfInBounds_comm _ _ hji]
      exact h3.2
theorem head_lex {n g : Nat} {Lq : Act → Prop} (hsel : Region.noSelect ops = true) (hs : Region.sinkB md ops n = true) (hc : Region.chainB md ops n = true) (hn : n < ops.size) :
    ∀ (l : List Oper) (k : Nat) (listed : Array Bool) (a : Act), (∀ j, j < l.length → l[j]? = ops[k + j]?) → k + l.length = n → HeadInv md ops n listed →
    Region.lexHead md ops g l.length k listed = true → wpQuiet P ops C Lq l a →
    headC P md ops C n (fun listed' a' => Region.seqB md ops g n listed' = true ∧ Lq a') l.length listed a := by
  intro l
  induction l with
  | nil =>
    intro k listed a _ hk _ hB h
    have : k = n := by simpa using hk
    subst this
    exact ⟨by simpa [Region.lexHead] using hB, h⟩
  | cons o l ih =>
    intro k listed a hl hk inv hB h
    have h0 : ops[k]? = some o := by simpa using (hl 0 (by simp)).symm
    simp only [List.length_cons, Region.lexHead, Bool.and_eq_true] at hB
    obtain ⟨⟨hr, hf⟩, hB'⟩ := hB
    have hkn : k < n := by simp only [List.length_cons] at hk; omega
    have hr' : k ∈ Region.ready md ops listed := by simpa using hr
    have hst : qOp P ops C k (wpQuiet P ops C Lq l) a := by unfold qOp; simp only [h0]; exact h
    obtain ⟨v, hy, hK⟩ := yieldsIn_of_qOp h0 hst
    exact head_first h0 (Region.noSelect_spec hsel) hs hc hn hkn (fun listed' a' hL => seqB_ready hL.1) l.length listed a inv (Region.free_spec h0 hf) hr' hy
      (ih (k + 1) _ _ (fun j hj => by have := hl (j + 1) (by simp; omega); simpa [Nat.add_assoc, Nat.add_comm 1 j] using this) (by simp only [List.length_cons] at hk; omega) (inv.set hr' hkn) hB' hK)
end
/-- The region: n quiet operations in the text's order, then the rest, one behind the other. -/
theorem region_tail {C : World → Prop} {id : Nat} {Q : Exit → Act → World → Prop} {a : Act} {w : World} {l : List Oper} (n : Nat) (hB : Region.lexTailB .any l.toArray n = true) (hC : C w.drew)
    (h : wpQuiet Try.prog l.toArray C (fun a' => ∀ w', C w' → wpList Try.prog l.toArray Q (l.drop n) a' w') (l.take n) a) : (Code.region id l.toArray true).wp Try.prog Q a w := by
  simp only [Region.lexTailB, Bool.and_eq_true, decide_eq_true_eq] at hB
  obtain ⟨⟨⟨⟨hsel, hn⟩, hs⟩, hc⟩, hlex⟩ := hB
  have hn' : n < l.length := by simpa using hn
  have htl : (l.take n).length = n := by simp; omega
  have hdl : (l.drop n).length = l.toArray.size - n := by simp
  have inv0 : HeadInv .any l.toArray n (Array.replicate l.toArray.size false) :=
    ⟨by simp, fun j oj _ hl => (by rw [getD_replicate_false] at hl; cases hl), fun t _ ht => getD_in (by simpa using ht) (getD_replicate_false _ _)⟩
  have H := head_lex (md := .any) (g := l.toArray.size - n) hsel hs hc hn (l.take n) 0 _ a (fun j hj => by
    have hj' : j < n := by rw [htl] at hj; exact hj
    simp [hj']) (by simpa using htl) inv0 (by rw [htl]; exact hlex) h
  refine wp_region_any (by kernel_rfl) ?_
  have := any_of_head (Q' := Q) (g := l.toArray.size - n) (fun listed a' w' hw' hL => by
    have := wpAny_of_seq (md := .any) (Q' := Q) (l.drop n) n listed a' w' (fun j => by simp [List.getElem?_drop]) (by rw [hdl]; exact hL.1) (hL.2 w' hw')
    rwa [hdl] at this) _ _ _ _ hC H
  rw [htl, show n + (l.toArray.size - n) = l.toArray.size by omega] at this
  exact this
end Go.Proofs.Ytaghidaamcnpkab
