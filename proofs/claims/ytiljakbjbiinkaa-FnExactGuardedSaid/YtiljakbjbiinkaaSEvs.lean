/-
  What the reference model's EventsOf comes to, and both contracts in the form that the law's walk takes.
-/
import Derived.Test.YtiljakbjbiinkaaEvts
import Derived.Test.YtiljakbjbiinkaaBegin
import Derived.Deep.AppendLies
import Derived.Test.YtiljakbjbiinkaaRun
import Derived.Test.YtiljakbjbiinkaaSCan
import Derived.Test.YtiljakbjbiinkaaSpDo
import Derived.Deep.RegionHeld3
import Derived.Deep.RegionHeldLaw
import Derived.Deep.RegionLaw
import Derived.Deep.DeepCutAuto
import Derived.Test.YtiljakbjbiinkaaIl
import Derived.Test.YtiljakbjbiinkaaEq
import Derived.Test.YtiljakbjbiinkaaMarkP
namespace Go.Proofs.Ytiljakbjbiinkaa
open Go.RowKit Pl
set_option maxHeartbeats 4000000
set_option maxRecDepth 100000
set_option linter.unusedVariables false

theorem Try.info177 : (Try.prog.info? 177).map (fun i => (i.zero, i.size, i.bytes)) = some (some (.agg #[.int .i64 0, .int .i64 0, .int .i64 0, .int .i64 0, .int .i64 0, .int .i64 0, .bool false]), 7, 56) := by kernel_rfl
theorem ev_new (w : World) (e : Evt) : ∀ j u, e.cells[j]? = some u → (w.alloc (.cells #[.int .i64 e.t, .int .i64 e.i, .int .i64 e.x.k, .int .i64 e.x.a, .int .i64 e.x.b, .int .i64 e.x.c, .bool e.x.s] 177)).cell? ((⟨w.heap.size, 0, none⟩ : Addr).add j) = some u :=
  World.news_of_block (heap_alloc_new w _)
theorem ev_one (e : Evt) : ∀ u ∈ e.cells, u.oneCell' = true := by
  intro u hu
  simp [Evt.cells] at hu
  rcases hu with rfl | rfl | rfl | rfl | rfl | rfl | rfl <;> rfl
theorem own_down {w : World} {base base' n : Nat} {t : TypeId} {s : Nat} {v : Value} {vs : List Value} (h : w.ownsRow base t s v n vs) (hb : base' ≤ base) : w.ownsRow base' t s v n vs := by
  obtain ⟨h0, h1⟩ := h
  refine ⟨h0, ?_⟩
  rcases h1 with h1 | ⟨g, cap, cur, e1, e2, rest⟩
  · exact Or.inl h1
  · exact Or.inr ⟨g, cap, cur, e1, by omega, rest⟩
def evOk : Option Evts → Bool
  | none => false
  | some _ => true
/-- A list of events in memory of the call's own; none. -/
def AnsEv (w : World) (q : Option Evts) (e : Ending) (w' : World) : Prop :=
  match q with
  | none => e = .returned (.tuple #[.slice none 0 0, .bool false]) ∧ Below w.heap.size w w'
  | some l => ∃ (A : Option Addr) (c : Nat), e = .returned (.tuple #[.slice A l.length c, .bool true]) ∧ Below w.heap.size w w' ∧ w'.ownsRow w.heap.size 177 7 (.slice A l.length c) l.length (evs l)
/-- The events of an order of a program; none, if it is none, or that is no order. -/
def evO (L : Pg) (xs : List Int) : Option Evts := if progB L then runE L (keptF L zeroF L.length) xs else none
end Go.Proofs.Ytiljakbjbiinkaa
namespace Go.Proofs.Ytiljakbjbiinkaa
open Go.RowKit Pl
set_option maxHeartbeats 1000000
set_option maxRecDepth 100000
set_option linter.unusedVariables false

theorem snext_sta (h : PgH) (L : Pg) (k : StaH) (f : Nat → Nat) (t : Nat) (w : World) (B : Nat) (hP : PgR w B h L) (hS : StaR w B k (staF L f)) (hB : B ≤ w.heap.size) (hL : progB L = true) (I : Inv L f) (ht : t < L.length) :
    Calls Try.prog 115 #[PgV h L, StaV k (staF L f), .int .i64 t] w fun e w' => ∃ x : Sm, e = .returned (.tuple #[x.val, .bool (canF L f t)]) ∧ (canF L f t = true → x = smAt L t (f (3 + t))) ∧ Below w.heap.size w w' := by
  have P := stB_parts (staF_stB hL I)
  have hc : canF L f t = nxZ L (staF L f) t := (can_pk hL I ht).symm.trans (can_nx P ht)
  have hg : (staF L f).f0.getD t 0 = ((f (3 + t) : Nat) : Int) := by
    have e : fL 0 = 0 := rfl
    rw [show (staF L f).f0.getD t 0 = (f (3 + t) : Int) + fL 0 from getD_some (fldI_at ht), e, Int.add_zero]
  rw [hc]
  unfold nxZ
  rw [hg, Int.toNat_natCast]
  by_cases hd : f (3 + t) < (L.getD t []).length
  · rw [decide_eq_true (by omega), Bool.true_and]
    refine (snext_yes h L k (staF L f) t w B hP hS hB P ht (f (3 + t)) hg hd _ (Lib.hid rfl)).mono ?_
    rintro e w' ⟨rfl, hb⟩
    exact ⟨_, rfl, fun _ => rfl, hb⟩
  · rw [decide_eq_false (by omega), Bool.false_and]
    refine (snext_no h L k (staF L f) t w B hP hS hB P ht (by rw [hg]; omega)).mono ?_
    rintro e w' ⟨rfl, hb⟩
    exact ⟨_, rfl, fun h => (by cases h), hb⟩
end Go.Proofs.Ytiljakbjbiinkaa
namespace Go.Proofs.Ytiljakbjbiinkaa
open Go.RowKit Pl Go.BigFrame
set_option maxHeartbeats 8000000
set_option maxRecDepth 100000
set_option linter.unusedVariables false

/-- The next statement lies in a box, and whether it can be done. -/
def GotNx (L : Pg) (f : Nat → Nat) (t : Nat) (w : World) (sa sb : Value) (wx : World) : Prop :=
  ∃ (b : Nat) (x : Sm), sa = .pointer (some ⟨b, 0, none⟩) ∧ sb = .bool (canF L f t) ∧ (canF L f t = true → x = smAt L t (f (3 + t))) ∧ Below w.heap.size w wx ∧ Bk wx b 132 #[.int .i64 x.k, .int .i64 x.a, .int .i64 x.b, .int .i64 x.c, .bool x.s] ∧ w.heap.size ≤ b ∧ b < wx.heap.size
theorem far3e {wr X w3 : World} {row : Option Nat} (hb : Below wr.heap.size wr X) (hg : X.grownBy w3 row) : ∀ q, q < wr.heap.size → some q ≠ row → w3.heap[q]? = wr.heap[q]? := fun q hq hne =>
  (hg.block q (Nat.lt_of_lt_of_le hq hb.size) hne).trans (hb.block q hq)
theorem below3e {W wr X w3 : World} {row : Option Nat} (h : Below W.heap.size W wr) (hb : Below wr.heap.size wr X) (hg : X.grownBy w3 row) (hne : ∀ q, q < W.heap.size → some q ≠ row) : Below W.heap.size W w3 :=
  have h0 := h.trans (hb.mono h.size)
  ⟨hg.os.trans h0.os, hg.tape.trans h0.tape, hg.output.trans h0.output, Nat.le_trans h0.size hg.size, fun q hq => (hg.block q (Nat.lt_of_lt_of_le hq h0.size) (hne q hq)).trans (h0.block q hq)⟩
theorem own_keep {w w' : World} {base g n cap s : Nat} {t : TypeId} {vs : List Value} (h : w.ownsRow base t s (.slice (some ⟨g, 0, none⟩) n cap) n vs) (hk : w'.heap[g]? = w.heap[g]?) : w'.ownsRow base t s (.slice (some ⟨g, 0, none⟩) n cap) n vs := by
  obtain ⟨h0, h1⟩ := h
  refine ⟨h0, ?_⟩
  rcases h1 with ⟨h1, h2⟩ | ⟨g', cap', cur, e1, e2, e3, rest⟩
  · cases h1
  · refine Or.inr ⟨g', cap', cur, e1, e2, ?_, rest⟩
    injection e1 with e4
    injection e4 with e4
    injection e4 with e5
    subst e5
    exact hk.trans e3
theorem gotNx_late {L : Pg} {f : Nat → Nat} {t : Nat} {w v9 : World} {x : Sm} (hb : Below w.heap.size w v9) (hx : canF L f t = true → x = smAt L t (f (3 + t))) :
    GotNx L f t w (.pointer (some ⟨v9.heap.size, 0, none⟩)) (.bool (canF L f t)) (v9.alloc (.cells #[.int .i64 x.k, .int .i64 x.a, .int .i64 x.b, .int .i64 x.c, .bool x.s] 132)) :=
  ⟨_, x, rfl, rfl, hx, hb.alloc hb.size _, Bk.new _ _ _, hb.size, by simp⟩
theorem gotNx_early {L : Pg} {f : Nat → Nat} {t b : Nat} {w v9 : World} {x : Sm} (hb : Below w.heap.size w v9) (k : Bk v9 b 132 #[.int .i64 0, .int .i64 0, .int .i64 0, .int .i64 0, .bool false]) (hwb : w.heap.size ≤ b) (hx : canF L f t = true → x = smAt L t (f (3 + t))) :
    GotNx L f t w (.pointer (some ⟨b, 0, none⟩)) (.bool (canF L f t)) (((((v9.setCell ⟨b, 0, none⟩ (.int .i64 x.k)).setCell ⟨b, 1, none⟩ (.int .i64 x.a)).setCell ⟨b, 2, none⟩ (.int .i64 x.b)).setCell ⟨b, 3, none⟩ (.int .i64 x.c)).setCell ⟨b, 4, none⟩ (.bool x.s)) := by
  have hbl := k.lt
  have kF : Bk (((((v9.setCell ⟨b, 0, none⟩ (.int .i64 x.k)).setCell ⟨b, 1, none⟩ (.int .i64 x.a)).setCell ⟨b, 2, none⟩ (.int .i64 x.b)).setCell ⟨b, 3, none⟩ (.int .i64 x.c)).setCell ⟨b, 4, none⟩ (.bool x.s)) b 132 #[.int .i64 x.k, .int .i64 x.a, .int .i64 x.b, .int .i64 x.c, .bool x.s] := by
    have a5 := ((((k.set 0 (.int .i64 x.k)).set 1 (.int .i64 x.a)).set 2 (.int .i64 x.b)).set 3 (.int .i64 x.c)).set 4 (.bool x.s)
    simpa using a5
  exact ⟨b, x, rfl, rfl, hx, (((((hb.setCell (p := ⟨b, 0, none⟩) (show w.heap.size ≤ b from hwb) _).setCell (p := ⟨b, 1, none⟩) (show w.heap.size ≤ b from hwb) _).setCell (p := ⟨b, 2, none⟩) (show w.heap.size ≤ b from hwb) _).setCell (p := ⟨b, 3, none⟩) (show w.heap.size ≤ b from hwb) _).setCell (p := ⟨b, 4, none⟩) (show w.heap.size ≤ b from hwb) _), kF, hwb, kF.lt⟩
end Go.Proofs.Ytiljakbjbiinkaa
namespace Go.Proofs.Ytiljakbjbiinkaa
open Go.RowKit Pl Go.BigFrame
set_option maxHeartbeats 4000000
set_option maxRecDepth 100000
set_option linter.unusedVariables false

structure EvsH where
  A : Option Addr
  c : Nat
abbrev EvsV (h : EvsH) (l : Evts) : Value := .slice h.A l.length h.c
structure EvsR (w : World) (B : Nat) (h : EvsH) (l : Evts) : Prop where
  v : Vs w B h.A (evs l)
structure EvsL (l : Evts) (m : Nat) : Prop where
  l0 : l.length ≤ m
abbrev EvsS (l : Evts) : Prop := EvsL l 1048576
theorem EvsS_L {l : Evts} (s : EvsS l) : EvsL l maxLen := ⟨Nat.le_trans s.l0 (by unfold maxLen; omega)⟩
structure EvsO (w : World) (lo hi : Nat) (h : EvsH) (l : Evts) : Prop where
  o0 : OwnVs w lo hi 177 h.A (evs l)
theorem EvsR.below {w w' : World} {B B' : Nat} {h : EvsH} {o : Evts} (r : EvsR w B h o) (hb : Below B' w w') (hB : B ≤ B') : EvsR w' B h o := ⟨r.v.below hb hB⟩
theorem EvsR.up {w w' : World} {B B' B'' : Nat} {h : EvsH} {o : Evts} (r : EvsR w B h o) (hb : Below B' w w') (hB : B ≤ B') (hB2 : B ≤ B'') : EvsR w' B'' h o := ⟨r.v.up hb hB hB2⟩
theorem EvsO.rd {w : World} {lo hi : Nat} {h : EvsH} {o : Evts} (r : EvsO w lo hi h o) : EvsR w hi h o := ⟨r.o0.vs⟩
theorem EvsO.below {w w' : World} {lo hi B : Nat} {h : EvsH} {o : Evts} (r : EvsO w lo hi h o) (hb : Below B w w') (hB : hi ≤ B) : EvsO w' lo hi h o := ⟨r.o0.below hb hB⟩
theorem EvsO.keep {w w' : World} {lo hi lo' hi' : Nat} {h : EvsH} {o : Evts} (r : EvsO w lo hi h o) (hl : lo' ≤ lo) (hh : hi ≤ hi') (hk : ∀ i, lo ≤ i → i < hi → w'.heap[i]? = w.heap[i]?) : EvsO w' lo' hi' h o := ⟨r.o0.keep hl hh hk⟩

theorem evs_at : ∀ {l : Evts} {k : Nat} {e : Evt}, l[k]? = some e → ∀ (i : Nat) (v : Value), e.cells[i]? = some v → (evs l)[k * 7 + i]? = some v := by
  intro l
  induction l with
  | nil => intro k e h; simp at h
  | cons a r ih =>
    intro k e h i v hv
    have ea : evs (a :: r) = a.cells ++ evs r := by simp [evs]
    have la : a.cells.length = 7 := rfl
    have hi : i < 7 := (List.getElem?_eq_some_iff.1 hv).1
    rw [ea]
    cases k with
    | zero =>
      simp only [List.getElem?_cons_zero, Option.some.injEq] at h
      subst h
      rw [List.getElem?_append_left (by omega), Nat.zero_mul, Nat.zero_add]
      exact hv
    | succ k =>
      rw [List.getElem?_append_right (by omega), la, show (k + 1) * 7 + i - 7 = k * 7 + i by omega]
      exact ih (by simpa using h) i v hv
/-- An event lies at the seven cells from o on. -/
def EvAt (w : World) (b o : Nat) (e : Evt) : Prop :=
  w.cell? ⟨b, o, none⟩ = some (.int .i64 e.t) ∧ w.cell? ⟨b, o + 1, none⟩ = some (.int .i64 e.i) ∧ w.cell? ⟨b, o + 2, none⟩ = some (.int .i64 e.x.k) ∧ w.cell? ⟨b, o + 3, none⟩ = some (.int .i64 e.x.a) ∧ w.cell? ⟨b, o + 4, none⟩ = some (.int .i64 e.x.b) ∧ w.cell? ⟨b, o + 5, none⟩ = some (.int .i64 e.x.c) ∧ w.cell? ⟨b, o + 6, none⟩ = some (.bool e.x.s)
theorem Vs.ev_ {w : World} {B : Nat} {A : Option Addr} {l : Evts} (h : Vs w B A (evs l)) {k : Nat} (hk : k < l.length) :
    ∃ b off e, A = some ⟨b, off, none⟩ ∧ b < B ∧ l[k]? = some e ∧ l.drop k = e :: l.drop (k + 1) ∧ EvAt w b (off + k * 7) e := by
  obtain ⟨b, off, hA, hb, hx⟩ := h (by rw [evs_length]; omega)
  obtain ⟨e, h1, h2⟩ := drop_at hk
  have q := fun i v hv => hx (k * 7 + i) v (evs_at h1 i v hv)
  exact ⟨b, off, e, hA, hb, h1, h2, q 0 _ rfl, q 1 _ rfl, q 2 _ rfl, q 3 _ rfl, q 4 _ rfl, q 5 _ rfl, q 6 _ rfl⟩

/-! ### equality -/
abbrev Evt.val (e : Evt) : Value := Ev e.t e.i e.x.k e.x.a e.x.b e.x.c e.x.s
def Evt.eqb (x y : Evt) : Bool := decide (x = y)
theorem Evt.eqb_of (x y : Evt) : x.eqb y = (x.t == y.t && (x.i == y.i && x.x.eqb y.x)) := by
  cases x; cases y
  simp [Evt.eqb, Sm.eqb, Bool.decide_and]
  rfl
/-! ### marks -/
def num7 (q : Int) : Evt := ⟨q, q + 1, ⟨q + 1 + 1, q + 1 + 1 + 1, q + 1 + 1 + 1 + 1, q + 1 + 1 + 1 + 1 + 1, (q + 1 + 1 + 1 + 1 + 1 + 1) % 3 == 0⟩⟩
def numsE (K : Int) (n : Nat) : Evts := (List.range n).map fun j : Nat => num7 (K + 7 * (j : Int))
@[simp] theorem numsE_length (K : Int) (n : Nat) : (numsE K n).length = n := by simp [numsE]
theorem numsE_at (K : Int) {n k : Nat} (h : k < n) : (numsE K n)[k]? = some (num7 (K + 7 * (k : Int))) := by simp [numsE, h]
def allEvs (l : Evts) : Int := 7 * (l.length : Int)
theorem mark7 {w wr : World} {g n k : Nat} {K : Int} (h : MarkV w wr g 177 (evs (numsE K n)) (k * 7)) (hk : k < n) {e : Evt} (he : e = num7 (K + 7 * (k : Int))) :
    MarkV w (((((((wr.setCell ⟨g, k * 7, none⟩ (.int .i64 e.t)).setCell ⟨g, k * 7 + 1, none⟩ (.int .i64 e.i)).setCell ⟨g, k * 7 + 2, none⟩ (.int .i64 e.x.k)).setCell ⟨g, k * 7 + 3, none⟩ (.int .i64 e.x.a)).setCell ⟨g, k * 7 + 4, none⟩ (.int .i64 e.x.b)).setCell ⟨g, k * 7 + 5, none⟩ (.int .i64 e.x.c)).setCell ⟨g, k * 7 + 6, none⟩ (.bool e.x.s)) g 177 (evs (numsE K n)) ((k + 1) * 7) := by
  have q := fun i v hv => evs_at (l := numsE K n) (k := k) (e := e) (by rw [he]; exact numsE_at K hk) i v hv
  have h0 := h.next (q 0 (.int .i64 e.t) rfl)
  have h1 := h0.next (q 1 (.int .i64 e.i) rfl)
  have h2 := h1.next (q 2 (.int .i64 e.x.k) rfl)
  have h3 := h2.next (q 3 (.int .i64 e.x.a) rfl)
  have h4 := h3.next (q 4 (.int .i64 e.x.b) rfl)
  have h5 := h4.next (q 5 (.int .i64 e.x.c) rfl)
  have h6 := h5.next (q 6 (.bool e.x.s) rfl)
  rw [show (k + 1) * 7 = k * 7 + 6 + 1 by omega]
  exact h6
end Go.Proofs.Ytiljakbjbiinkaa
namespace Go.Proofs.Ytiljakbjbiinkaa
open Go.RowKit Pl
set_option maxHeartbeats 4000000
set_option maxRecDepth 100000
set_option linter.unusedVariables false

def evL : Option Evts → Evts
  | none => []
  | some l => l
/-- A list of events, and whether there is one. -/
def AnsEvs (w : World) (l : Evts) (r : Bool) (e : Ending) (w' : World) : Prop :=
  ∃ k : EvsH, e = .returned (.tuple #[EvsV k l, .bool r]) ∧ Below w.heap.size w w' ∧ w.heap.size ≤ w'.heap.size ∧ EvsO w' w.heap.size w'.heap.size k l
theorem AnsEv.to {w : World} {q : Option Evts} {e : Ending} {w' : World} (h : AnsEv w q e w') : AnsEvs w (evL q) (evOk q) e w' := by
  cases q with
  | none =>
    obtain ⟨rfl, hb⟩ := h
    exact ⟨⟨none, 0⟩, rfl, hb, hb.size, ⟨OwnVs.nil _ _ _ _ _⟩⟩
  | some l =>
    obtain ⟨A, c, rfl, hb, ho⟩ := h
    refine ⟨⟨A, c⟩, rfl, hb, hb.size, ⟨fun hn => ?_⟩⟩
    rcases ho.2 with ⟨_, h0⟩ | ⟨g, cap, cur, hv', hbb, hh, _, _, _, htake⟩
    · have e0 : l.length = 0 := by have := ho.1; omega
      rw [show evL (some l) = l from rfl, evs_length] at hn
      omega
    · injection hv' with hA
      subst hA
      have hg : g < w'.heap.size := Bk.lt (t := 177) (cs := cur) hh
      refine ⟨g, cur, rfl, hbb, hg, hh, fun j u hj => ?_⟩
      have hj' : (evs l)[j]? = some u := hj
      rw [← htake, List.getElem?_take] at hj'
      split at hj'
      · simpa using hj'
      · cases hj'
def evE (L : Pg) (xs : List Int) : Evts := evL (evO L xs)
def evR (L : Pg) (xs : List Int) : Bool := evOk (evO L xs)
theorem runE_le {L : Pg} : ∀ {xs : List Int} {f : Nat → Nat}, (evL (runE L f xs)).length ≤ xs.length := by
  intro xs
  induction xs with
  | nil => intro f; unfold runE; simp [evL]
  | cons t r ih =>
    intro f
    unfold runE
    split
    · have := ih (f := stepF L f t.toNat)
      cases hq : runE L (stepF L f t.toNat) r with
      | none => simp [evL]
      | some l => rw [hq] at this; simpa [evL] using this
    · simp [evL]
theorem evE_small {L : Pg} {xs : List Int} (_ : PgS L) (h : IsS xs) : EvsS (evE L xs) := by
  unfold evE evO
  split
  · exact ⟨Nat.le_trans runE_le h.l0⟩
  · exact ⟨by simp [evL]⟩
end Go.Proofs.Ytiljakbjbiinkaa
