/-
  Contracts of the laws' equality functions: each says whether two lists that memory holds are one and the same, and makes memory alone.
-/
import Derived.Test.YtaghidaamcnpkabQMake
import Derived.Test.YtaghidaamcnpkabVs
import Derived.Test.YtaghidaamcnpkabFrame
import Derived.LoopTactic
import Derived.Outline
namespace Go.Proofs.Ytaghidaamcnpkab
open Go
set_option linter.unusedVariables false

def selR : List Bool → List Oper → List Oper
  | true :: m, o :: l => o :: selR m l
  | false :: m, _ :: l => selR m l
  | _, _ => []
def selI : Nat → List Bool → List Nat
  | k, true :: m => selI (k + 1) m
  | k, false :: m => k :: selI (k + 1) m
  | _, [] => []
def trues : List Bool → Nat
  | true :: m => trues m + 1
  | false :: m => trues m
  | [] => 0
theorem trues_sel : ∀ (m : List Bool) (k : Nat), trues m + (selI k m).length = m.length := by
  intro m
  induction m with
  | nil => intro k; rfl
  | cons b m ih =>
    intro k
    have := ih (k + 1)
    cases b <;> simp [trues, selI] <;> omega
def seqI (md : Region.Mode) (ops : Array Oper) : List Nat → Array Bool → Bool
  | [], listed => (Region.ready md ops listed).isEmpty
  | k :: ks, listed => decide (Region.ready md ops listed = [k]) && seqI md ops ks (listed.setIfInBounds k true)
def lexS (md : Region.Mode) (ops : Array Oper) (n : Nat) (r : List Nat) : List Bool → Nat → Array Bool → Bool
  | true :: m, k, listed => (decide (k < n) && (Region.ready md ops listed).contains k && Region.free md ops listed k) && lexS md ops n r m (k + 1) (listed.setIfInBounds k true)
  | false :: m, k, listed => lexS md ops n r m (k + 1) listed
  | [], _, listed => seqI md ops r listed
section
variable {P : Program} {ops : Array Oper} {md : Region.Mode} {C : World → Prop}
def seqM (P : Program) (ops : Array Oper) (C : World → Prop) (n : Nat) (Q : Exit → Act → World → Prop) : List Nat → Act → World → Prop
  | [], a, w => Q .normal a w
  | k :: ks, a, w => wpOp P ops Q k (fun a' w' => (k < n → C w') ∧ seqM P ops C n Q ks a' w') a w
theorem anyC_of_seqM {n : Nat} {Q : Exit → Act → World → Prop} : ∀ (r : List Nat) (listed : Array Bool) (a : Act) (w : World),
    seqI md ops r listed = true → seqM P ops C n Q r a w → anyC P md ops C n Q r.length listed a w := by
  intro r
  induction r with
  | nil => intro listed a w hB h; exact ⟨by simpa [seqI] using hB, h⟩
  | cons k r ih =>
    intro listed a w hB h
    simp only [seqI, Bool.and_eq_true, decide_eq_true_eq] at hB
    refine ⟨fun h1 => (by rw [hB.1] at h1; cases h1), fun i hi => ?_⟩
    rw [hB.1] at hi
    have hik : i = k := by simpa using hi
    subst hik
    exact wpOp_mono (fun a' w' h' => ⟨h'.1, ih _ a' w' hB.2 h'.2⟩) h
theorem make_sel {n : Nat} {r : List Nat} {Lq : Act → Prop} {Q : Exit → Act → World → Prop} (hQ : ∀ c a w, ¬ Q (.panic c) a w) (hsel : Region.noSelect ops = true) (hs : Region.sinkB md ops n = true) (hc : Region.chainB md ops n = true) (hn : n < ops.size) (w : World) (hw : C w)
    (htail : ∀ listed a, seqI md ops r listed = true → Lq a → anyC P md ops C n Q r.length listed a w) :
    ∀ (m : List Bool) (l : List Oper) (k : Nat) (listed : Array Bool) (a : Act), m.length = l.length → (∀ j, j < l.length → l[j]? = ops[k + j]?) → (∀ o ∈ selR m l, ldB o = true) → HeadInv md ops n listed →
    lexS md ops n r m k listed = true → wpQuiet P ops C Lq (selR m l) a → anyC P md ops C n Q (trues m + r.length) listed a w := by
  intro m
  induction m with
  | nil =>
    intro l k listed a _ _ _ _ hB h
    simp only [trues, Nat.zero_add]
    refine htail listed a (by simpa [lexS] using hB) ?_
    cases l <;> exact h
  | cons b m ih =>
    intro l k listed a hlen hl hlds inv hB h
    cases l with
    | nil => simp at hlen
    | cons o l =>
      have hl' : ∀ j, j < l.length → l[j]? = ops[k + 1 + j]? := fun j hj => by
        have := hl (j + 1) (by simp; omega)
        simpa [Nat.add_assoc, Nat.add_comm 1 j] using this
      have hlen' : m.length = l.length := by simpa using hlen
      cases b with
      | false =>
        simp only [lexS] at hB
        exact ih l (k + 1) listed a hlen' hl' hlds inv hB h
      | true =>
        have h0 : ops[k]? = some o := by simpa using (hl 0 (by simp)).symm
        simp only [lexS, Bool.and_eq_true, decide_eq_true_eq] at hB
        obtain ⟨⟨⟨hkn, hr⟩, hf⟩, hB'⟩ := hB
        have hr' : k ∈ Region.ready md ops listed := by simpa using hr
        have hst : qOp P ops C k (wpQuiet P ops C Lq (selR m l)) a := by unfold qOp; simp only [h0]; exact h
        obtain ⟨v, hy, hK⟩ := yieldsIn_of_qOp h0 hst
        rw [trues, show trues m + 1 + r.length = (trues m + r.length) + 1 by omega]
        exact make_first hQ h0 (Region.noSelect_spec hsel) hs hc hn hkn (hlds o (List.mem_cons_self ..)) (trues m + r.length) listed a w inv (Region.free_spec h0 hf) hr' hy hw
          (ih l (k + 1) _ _ hlen' hl' (fun o' ho' => hlds o' (List.mem_cons_of_mem _ ho')) (inv.set hr' hkn) hB' hK)
/-- One step of what comes behind the reads. -/
theorem seqM_step {n k : Nat} {o : Oper} {r : List Nat} {Q : Exit → Act → World → Prop} {a : Act} {w : World} (hk : ops[k]? = some o)
    (h : ∀ R : Exit → Act → World → Prop, (∀ a' w', (k < n → C w') → seqM P ops C n Q r a' w' → R .normal a' w') → wpList P ops R [o] a w) : seqM P ops C n Q (k :: r) a w :=
  op_list hk (h _ fun a' w' h1 h2 => ⟨h1, h2⟩)
theorem seqM_nil {n : Nat} {Q : Exit → Act → World → Prop} {a : Act} {w : World} (h : Q .normal a w) : seqM P ops C n (NoPanic Q) [] a w := h
end
/-- The region: the reads of the mask, in the text's order, whatever the world of the class; then the rest. -/
theorem region_sel {C : World → Prop} {id : Nat} {Q : Exit → Act → World → Prop} {a : Act} {w : World} {l : List Oper} (n : Nat) (m : List Bool)
    (hB : (decide (m.length = l.length) && Region.noSelect l.toArray && decide (n < l.toArray.size) && Region.sinkB .any l.toArray n && Region.chainB .any l.toArray n && lexS .any l.toArray n (selI 0 m) m 0 (Array.replicate l.toArray.size false) && (selR m l).all ldB) = true) (hC : C w.drew)
    (h : wpQuiet Try.prog l.toArray C (fun a' => seqM Try.prog l.toArray C n (NoPanic Q) (selI 0 m) a' w.drew) (selR m l) a) : (Code.region id l.toArray true).wp Try.prog Q a w := by
  simp only [Bool.and_eq_true, decide_eq_true_eq, List.all_eq_true] at hB
  obtain ⟨⟨⟨⟨⟨⟨hlen, hsel⟩, hn⟩, hs⟩, hc⟩, hlex⟩, hlds⟩ := hB
  have inv0 : HeadInv .any l.toArray n (Array.replicate l.toArray.size false) :=
    ⟨by simp, fun j oj _ hl => (by rw [getD_replicate_false] at hl; cases hl), fun t _ ht => getD_in (by simpa using ht) (getD_replicate_false _ _)⟩
  refine wp_region_noPanic ?_
  refine wp_region_any (by kernel_rfl) ?_
  have H := make_sel (P := Try.prog) (md := .any) (C := C) (Q := NoPanic Q) (r := selI 0 m) (fun c a w h => h) hsel hs hc hn w.drew hC (fun listed a' hseq hL => anyC_of_seqM (md := .any) (selI 0 m) listed a' w.drew hseq hL) m l 0 _ a hlen (fun j hj => by simp) hlds inv0 hlex h
  rw [trues_sel m 0, hlen] at H
  have e : l.length = l.toArray.size := by simp
  rw [e] at H
  exact any_of_anyC _ _ _ _ H
end Go.Proofs.Ytaghidaamcnpkab
namespace Go.Proofs.Ytaghidaamcnpkab
open Go.RowKit Pl
set_option linter.unusedVariables false

/-- A slice's address leads to these rows, below block B. -/
def Vss (w : World) (B : Nat) (A : Option Addr) (V : List (List Value)) : Prop :=
  0 < V.length → ∃ b off, A = some ⟨b, off, none⟩ ∧ b < B ∧ ∀ (i : Nat) (vs : List Value), V[i]? = some vs → ∃ Ai ci, w.cell? ⟨b, off + i, none⟩ = some (.slice Ai vs.length ci) ∧ Vs w B Ai vs
theorem Vss.keep {w w' : World} {B B' : Nat} {A : Option Addr} {V : List (List Value)} (h : Vss w B A V) (hB : B ≤ B') (hk : ∀ b o, b < B → w'.cell? ⟨b, o, none⟩ = w.cell? ⟨b, o, none⟩) : Vss w' B' A V := fun hn => by
  obtain ⟨b, off, hA, hb, hx⟩ := h hn
  refine ⟨b, off, hA, by omega, fun i vs hi => ?_⟩
  obtain ⟨Ai, ci, hc, hr⟩ := hx i vs hi
  exact ⟨Ai, ci, (hk b _ hb).trans hc, hr.keep hB hk⟩
theorem Vss.below {w w' : World} {B B' : Nat} {A : Option Addr} {V : List (List Value)} (h : Vss w B A V) (hb : Below B' w w') (hB : B ≤ B') : Vss w' B A V :=
  h.keep (Nat.le_refl _) fun b o hlt => hb.cell (p := ⟨b, o, none⟩) (by show b < B'; omega)
theorem Vss.up {w w' : World} {B B' B'' : Nat} {A : Option Addr} {V : List (List Value)} (h : Vss w B A V) (hb : Below B' w w') (hB : B ≤ B') (hB2 : B ≤ B'') : Vss w' B'' A V :=
  h.keep hB2 fun b o hlt => hb.cell (p := ⟨b, o, none⟩) (by show b < B'; omega)
theorem Vss.at_ {w : World} {B : Nat} {A : Option Addr} {V : List (List Value)} (h : Vss w B A V) {i : Nat} {vs : List Value} (hi : V[i]? = some vs) :
    ∃ b off Ai ci, A = some ⟨b, off, none⟩ ∧ b < B ∧ w.cell? ⟨b, off + i, none⟩ = some (.slice Ai vs.length ci) ∧ Vs w B Ai vs := by
  have hl := (List.getElem?_eq_some_iff.1 hi).1
  obtain ⟨b, off, hA, hb, hx⟩ := h (by omega)
  obtain ⟨Ai, ci, hc, hr⟩ := hx i vs hi
  exact ⟨b, off, Ai, ci, hA, hb, hc, hr⟩

/-- Rows of the call's own: each in a block that no other one has. -/
def OwnVss (w : World) (lo hi : Nat) (t te : TypeId) (A : Option Addr) (V : List (List Value)) : Prop :=
  0 < V.length → ∃ (g : Nat) (cs : Array Value) (D : Nat → Option Addr) (C : Nat → Nat), A = some ⟨g, 0, none⟩ ∧ lo ≤ g ∧ g < hi ∧ Bk w g t cs ∧
    (∀ (i : Nat) (vs : List Value), V[i]? = some vs → cs[i]? = some (.slice (D i) vs.length (C i)) ∧ OwnVs w lo hi te (D i) vs) ∧
    ∀ i j vs us, i < j → V[i]? = some vs → V[j]? = some us → 0 < vs.length → 0 < us.length → D i ≠ D j
theorem OwnVss.vss {w : World} {lo hi : Nat} {t te : TypeId} {A : Option Addr} {V : List (List Value)} (h : OwnVss w lo hi t te A V) : Vss w hi A V := fun hn => by
  obtain ⟨g, cs, D, C, hA, _, hg, hb, hx, _⟩ := h hn
  exact ⟨g, 0, hA, hg, fun i vs hi => ⟨D i, C i, by rw [Nat.zero_add]; exact (hb.cell i).trans (hx i vs hi).1, (hx i vs hi).2.vs⟩⟩
theorem OwnVss.keep {w w' : World} {lo hi lo' hi' : Nat} {t te : TypeId} {A : Option Addr} {V : List (List Value)} (h : OwnVss w lo hi t te A V) (hl : lo' ≤ lo) (hh : hi ≤ hi') (hk : ∀ i, lo ≤ i → i < hi → w'.heap[i]? = w.heap[i]?) : OwnVss w' lo' hi' t te A V := fun hn => by
  obtain ⟨g, cs, D, C, hA, h0, hg, hb, hx, hd⟩ := h hn
  exact ⟨g, cs, D, C, hA, by omega, by omega, (hk g h0 hg).trans hb, fun i vs hi => ⟨(hx i vs hi).1, (hx i vs hi).2.keep hl hh hk⟩, hd⟩
theorem OwnVss.below {w w' : World} {lo hi B : Nat} {t te : TypeId} {A : Option Addr} {V : List (List Value)} (h : OwnVss w lo hi t te A V) (hb : Below B w w') (hB : hi ≤ B) : OwnVss w' lo hi t te A V :=
  h.keep (Nat.le_refl _) (Nat.le_refl _) fun i _ hi => hb.block i (by omega)
theorem OwnVss.nil (w : World) (lo hi : Nat) (t te : TypeId) (A : Option Addr) : OwnVss w lo hi t te A [] := fun h => absurd h (by simp)

/-- How many values there are in all rows. -/
def tot {α : Type} (L : List (List α)) : Nat := (L.map List.length).sum
theorem tot_cons {α : Type} (x : List α) (r : List (List α)) : tot (x :: r) = x.length + tot r := by simp [tot]
theorem tot_take_succ {α : Type} {L : List (List α)} {k : Nat} {xs : List α} (h : L[k]? = some xs) : tot (L.take (k + 1)) = tot (L.take k) + xs.length := by
  rw [List.take_add_one, h]
  simp [tot]
theorem tot_take_le {α : Type} (L : List (List α)) (k : Nat) : tot (L.take k) ≤ tot L := by
  have : tot L = tot (L.take k) + tot (L.drop k) := by
    simp only [tot, List.map_take, List.map_drop]
    rw [← List.sum_append, List.take_append_drop]
  omega
theorem tot_mem {α : Type} {L : List (List α)} {k : Nat} {xs : List α} (h : L[k]? = some xs) : xs.length ≤ tot L := by
  have := tot_take_succ h
  have := tot_take_le L (k + 1)
  omega
end Go.Proofs.Ytaghidaamcnpkab
namespace Go.Proofs.Ytaghidaamcnpkab
open Go.RowKit Pl Go.BigFrame
set_option maxHeartbeats 400000
set_option linter.unusedVariables false

def Sm.eqb (x y : Sm) : Bool := decide (x = y)
theorem Sm.eqb_of (x y : Sm) : x.eqb y = (x.k == y.k && (x.a == y.a && (x.b == y.b && (x.c == y.c && x.s == y.s)))) := by
  cases x; cases y
  simp [Sm.eqb, Bool.decide_and]
  rfl

theorem eqStmt_any (x y : Sm) (w : World) : Calls Try.prog 121 #[x.val, y.val] w fun e w' => e = .returned (.bool (x.eqb y)) ∧ Below w.heap.size w w' := by
  rw [Sm.eqb_of]
  go_enter Try.func121, Try.ntmps121
  go_wp2
  all_goals (go_ret; refine ⟨?_, by go_grown⟩; simp only [bne_iff_ne, ne_eq, bne_eq_false_iff_eq, Bool.not_eq_true', Bool.not_eq_false', beq_iff_eq, beq_eq_false_iff_ne] at *; simp [*])

theorem eqS_any (A1 A2 : Option Addr) (xs ys : List Sm) (c1 c2 : Nat) (w : World) (B : Nat) (h1 : Row w B A1 xs) (h2 : Row w B A2 ys) (hB : B ≤ w.heap.size) (hm1 : xs.length ≤ maxLen) (hm2 : ys.length ≤ maxLen) (r : Bool) (hr : Hid (decide (xs = ys) = r)) :
    Calls Try.prog 77 #[.slice A1 xs.length c1, .slice A2 ys.length c2] w fun e w' => e = .returned (.bool r) ∧ Below w.heap.size w w' := by
  unfold maxLen at hm1 hm2
  by_cases hne : xs.length = ys.length
  · have heq : ((xs.length : Int) != (ys.length : Int)) = false := by simp [hne]
    have hle : xs.length ≤ ys.length := by omega
    have hge : ys.length ≤ xs.length := by omega
    clear hne
    go_enter Try.func77, Try.ntmps77
    go_wp2
    go_loopw [5] (fun i wr => ∃ k : Nat, k ≤ xs.length ∧ i = .int .i64 k ∧ Below w.heap.size w wr ∧ Hid (decide (xs.drop k = ys.drop k) = r)) (fun i _ => xs.length - (intOf i).toNat)
    case atStart => exact ⟨0, Nat.zero_le _, rfl, Below.refl _ _, by simpa using hr⟩
    case round =>
      obtain ⟨k, hk, rfl, hbel, hrest⟩ := hrel
      clear hr heq
      by_cases hlt : k < xs.length
      · have R1 := h1.below hbel hB
        have R2 := h2.below hbel hB
        obtain ⟨b1, off1, x, rfl, hb1, -, hd1, hx0, hx1, hx2, hx3, hx4⟩ := R1.at_ hlt
        obtain ⟨b2, off2, y, rfl, hb2, -, hd2, hy0, hy1, hy2, hy3, hy4⟩ := R2.at_ (show k < ys.length by omega)
        have hz := hbel.size
        have hi1 : (k : Int) < (xs.length : Int) := by omega
        have hi2 : (k : Int) < (ys.length : Int) := by omega
        have Hd1 := Lib.hid hd1
        have Hd2 := Lib.hid hd2
        have hS := fr_none wr
        have gx0 := Ws.same (bs := []) (by omega) hx0
        have gx1 := Ws.same (bs := []) (by omega) hx1
        have gx2 := Ws.same (bs := []) (by omega) hx2
        have gx3 := Ws.same (bs := []) (by omega) hx3
        have gx4 := Ws.same (bs := []) (by omega) hx4
        have gy0 := Ws.same (bs := []) (by omega) hy0
        have gy1 := Ws.same (bs := []) (by omega) hy1
        have gy2 := Ws.same (bs := []) (by omega) hy2
        have gy3 := Ws.same (bs := []) (by omega) hy3
        have gy4 := Ws.same (bs := []) (by omega) hy4
        haveI hne := Nonempty.intro (Ws.mk _ hS)
        have HS := Lib.hid hS
        clear hS hd1 hd2 hx0 hx1 hx2 hx3 hx4 hy0 hy1 hy2 hy3 hy4 R1 R2 h1 h2
        rcases Bool.eq_false_or_eq_true (x.eqb y) with he | he
        all_goals
          have He := Lib.hid he
          clear he
          go_wp2_with fail
          refine region_in (by kernel_rfl) HS.out.drew ?_
          repeat (go_big_quiet_step ((go_at_call 121; exact call_in (ret_bool He.out (eqStmt_any x y _)))))
          refine wpQuiet_nil ?_
          rintro w2 ⟨⟨_, hw2⟩, rfl⟩
          have hB2 : Below w.heap.size w w2 := below_on hbel hw2.below
          clear gx0 gx1 gx2 gx3 gx4 gy0 gy1 gy2 gy3 gy4
          go_wp2
        · go_roundw
          case rel => exact ⟨k + 1, by omega, by go_num, hB2, by
            have hxy : x = y := of_decide_eq_true He.out
            have := hrest.out
            rw [Hd1.out, Hd2.out, hxy] at this
            exact Lib.hid (by rw [← this]; simp)⟩
          case measure => simp [intOf]; omega
        · go_ret
          refine ⟨?_, hB2⟩
          have hxy : x ≠ y := of_decide_eq_false He.out
          have := hrest.out
          rw [Hd1.out, Hd2.out] at this
          rw [← this]
          simp [hxy]
      · have hlast : Hid (r = true) := Lib.hid (by
          have := hrest.out
          rw [List.drop_eq_nil_of_le (by omega), List.drop_eq_nil_of_le (by omega)] at this
          rw [← this]; rfl)
        go_wp2
        go_ret
        exact ⟨by rw [hlast.out]; rfl, hbel⟩
  · have hlast : Hid (r = false) := Lib.hid (by rw [← hr.out]; exact decide_eq_false (fun e => hne (by rw [e])))
    have heq : ((xs.length : Int) != (ys.length : Int)) = true := by simp; omega
    clear hr
    go_enter Try.func77, Try.ntmps77
    go_wp2
    go_ret
    exact ⟨by rw [hlast.out]; rfl, Below.refl _ _⟩

theorem eqSS_any (A1 A2 : Option Addr) (L1 L2 : List (List Sm)) (c1 c2 : Nat) (w : World) (B : Nat) (h1 : Rows2 w B A1 L1) (h2 : Rows2 w B A2 L2) (hB : B ≤ w.heap.size) (hm1 : L1.length ≤ maxLen) (hm2 : L2.length ≤ maxLen) (r : Bool) (hr : Hid (decide (L1 = L2) = r)) :
    Calls Try.prog 38 #[.slice A1 L1.length c1, .slice A2 L2.length c2] w fun e w' => e = .returned (.bool r) ∧ Below w.heap.size w w' := by
  unfold maxLen at hm1 hm2
  by_cases hne : L1.length = L2.length
  · have heq : ((L1.length : Int) != (L2.length : Int)) = false := by simp [hne]
    have hle : L1.length ≤ L2.length := by omega
    have hge : L2.length ≤ L1.length := by omega
    clear hne
    go_enter Try.func38, Try.ntmps38
    go_wp2
    go_loopw [5] (fun i wr => ∃ k : Nat, k ≤ L1.length ∧ i = .int .i64 k ∧ Below w.heap.size w wr ∧ Hid (decide (L1.drop k = L2.drop k) = r)) (fun i _ => L1.length - (intOf i).toNat)
    case atStart => exact ⟨0, Nat.zero_le _, rfl, Below.refl _ _, by simpa using hr⟩
    case round =>
      obtain ⟨k, hk, rfl, hbel, hrest⟩ := hrel
      clear hr heq
      by_cases hlt : k < L1.length
      · have R1 := h1.below hbel hB
        have R2 := h2.below hbel hB
        obtain ⟨b1, off1, xs, Ai, ci, rfl, hb1, -, hd1, hx0, hlx, hmx, hrx⟩ := R1.at_ hlt
        obtain ⟨b2, off2, ys, Aj, cj, rfl, hb2, -, hd2, hy0, hly, hmy, hry⟩ := R2.at_ (show k < L2.length by omega)
        have hz := hbel.size
        have hi1 : (k : Int) < (L1.length : Int) := by omega
        have hi2 : (k : Int) < (L2.length : Int) := by omega
        have Hd1 := Lib.hid hd1
        have Hd2 := Lib.hid hd2
        have Gx := Lib.hid (fun x : Ws (Fr wr []) => hrx.below x.ok.below (by omega))
        have Gy := Lib.hid (fun x : Ws (Fr wr []) => hry.below x.ok.below (by omega))
        have hS := fr_none wr
        have gx0 := Ws.same (bs := []) (by omega) hx0
        have gy0 := Ws.same (bs := []) (by omega) hy0
        have gz : ∀ x : Ws (Fr wr []), B ≤ x.val.heap.size := fun x => by have := x.ok.below.size; omega
        have Gz := Lib.hid gz
        haveI hne := Nonempty.intro (Ws.mk _ hS)
        have HS := Lib.hid hS
        clear hS hd1 hd2 hx0 hy0 R1 R2 h1 h2 hrx hry gz
        rcases Bool.eq_false_or_eq_true (decide (xs = ys)) with he | he
        all_goals
          have He := Lib.hid he
          clear he
          go_wp2_with fail
          refine region_in (by kernel_rfl) HS.out.drew ?_
          repeat (go_big_quiet_step ((go_at_call 77; exact call_in (eqS_any Ai Aj xs ys ci cj _ B (Gx.out _) (Gy.out _) (Gz.out _) (by omega) (by omega) _ He))))
          refine wpQuiet_nil ?_
          rintro w2 ⟨⟨_, hw2⟩, rfl⟩
          have hB2 : Below w.heap.size w w2 := below_on hbel hw2.below
          clear gx0 gy0
          go_wp2
        · go_roundw
          case rel => exact ⟨k + 1, by omega, by go_num, hB2, by
            have hxy : xs = ys := of_decide_eq_true He.out
            have := hrest.out
            rw [Hd1.out, Hd2.out, hxy] at this
            exact Lib.hid (by rw [← this]; simp)⟩
          case measure => simp [intOf]; omega
        · go_ret
          refine ⟨?_, hB2⟩
          have hxy : xs ≠ ys := of_decide_eq_false He.out
          have := hrest.out
          rw [Hd1.out, Hd2.out] at this
          rw [← this]
          simp [hxy]
      · have hlast : Hid (r = true) := Lib.hid (by
          have := hrest.out
          rw [List.drop_eq_nil_of_le (by omega), List.drop_eq_nil_of_le (by omega)] at this
          rw [← this]; rfl)
        go_wp2
        go_ret
        exact ⟨by rw [hlast.out]; rfl, hbel⟩
  · have hlast : Hid (r = false) := Lib.hid (by rw [← hr.out]; exact decide_eq_false (fun e => hne (by rw [e])))
    have heq : ((L1.length : Int) != (L2.length : Int)) = true := by simp; omega
    clear hr
    go_enter Try.func38, Try.ntmps38
    go_wp2
    go_ret
    exact ⟨by rw [hlast.out]; rfl, Below.refl _ _⟩

/-- A program's value. -/
abbrev Pr (A : Option Addr) (n c : Nat) : Value := .agg #[.slice A n c]
theorem eqP_any (A1 A2 : Option Addr) (L1 L2 : List (List Sm)) (c1 c2 : Nat) (w : World) (B : Nat) (h1 : Rows2 w B A1 L1) (h2 : Rows2 w B A2 L2) (hB : B ≤ w.heap.size) (hm1 : L1.length ≤ maxLen) (hm2 : L2.length ≤ maxLen) (r : Bool) (hr : Hid (decide (L1 = L2) = r)) :
    Calls Try.prog 12 #[Pr A1 L1.length c1, Pr A2 L2.length c2] w fun e w' => e = .returned (.bool r) ∧ Below w.heap.size w w' := by
  have H1 := Lib.hid (h1.below (below_on (Below.refl _ _) ((Below.refl _ _).alloc (Nat.le_refl _) (.cells #[.slice A1 L1.length c1] 32))) hB)
  have b2 : Below w.heap.size w ((w.alloc (.cells #[.slice A1 L1.length c1] 32)).alloc (.cells #[.slice A2 L2.length c2] 32)) := by go_grown
  have G1 := Lib.hid (h1.below b2 hB)
  have G2 := Lib.hid (h2.below b2 hB)
  have hz : B ≤ ((w.alloc (.cells #[.slice A1 L1.length c1] 32)).alloc (.cells #[.slice A2 L2.length c2] 32)).heap.size := by have := b2.size; omega
  have Hz := Lib.hid hz
  have Hb2 := Lib.hid b2
  clear h1 h2 b2 hz H1
  cases r
  all_goals
    go_enter Try.func12, Try.ntmps12
    go_wp2_with (go_at_call 38; refine (eqSS_any A1 A2 L1 L2 c1 c2 _ B G1.out G2.out Hz.out hm1 hm2 _ hr).mono ?_; rintro e w1 ⟨rfl, hb⟩; have hBw : Below w.heap.size w w1 := below_on Hb2.out hb; clear hb)
    go_ret
    exact ⟨rfl, hBw⟩

end Go.Proofs.Ytaghidaamcnpkab
