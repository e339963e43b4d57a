/-
  What the reference model's l9Zeros comes to.
-/
import Derived.Test.YtiljakbjbiinkaaIss
import Derived.Test.YtiljakbjbiinkaaCopy1
import Derived.Test.YtiljakbjbiinkaaOrdS
import Derived.Test.YtiljakbjbiinkaaBegin
import Derived.Test.YtiljakbjbiinkaaVwd
namespace Go.Proofs.Ytiljakbjbiinkaa
open Go.RowKit Pl
set_option maxHeartbeats 1000000
set_option maxRecDepth 100000
set_option linter.unusedVariables false

theorem Try.info39 : (Try.prog.info? 39).map (fun i => (i.zero, i.size, i.bytes)) = some (some (.slice none 0 0), 1, 24) := by kernel_rfl
/-! ### a list of lists of numbers in memory, its lists each in a block of its own -/
def RowsI (w : World) (lo hi : Nat) (Ls : List (List Int)) (D : Nat → Nat) : Prop :=
  (∀ j xs, Ls[j]? = some xs → lo ≤ D j ∧ D j < hi ∧ ∃ cs, Bk w (D j) 3 cs ∧ ∀ (a : Nat) (v : Value), (ints xs)[a]? = some v → cs[a]? = some v) ∧ ∀ i j, i < j → j < Ls.length → D i < D j
def headsI (Ls : List (List Int)) (D : Nat → Nat) : List Value := (List.range Ls.length).map fun j => .slice (some ⟨D j, 0, none⟩) (Ls.getD j []).length (Ls.getD j []).length
@[simp] theorem headsI_length (Ls : List (List Int)) (D : Nat → Nat) : (headsI Ls D).length = Ls.length := by simp [headsI]
theorem headsI_at {Ls : List (List Int)} {D : Nat → Nat} {j : Nat} {xs : List Int} (h : Ls[j]? = some xs) : (headsI Ls D)[j]? = some (.slice (some ⟨D j, 0, none⟩) xs.length xs.length) := by
  have hl := (List.getElem?_eq_some_iff.1 h).1
  simp [headsI, hl]
  have : Ls[j] = xs := (List.getElem?_eq_some_iff.1 h).2
  rw [this]
theorem headsI_snoc (Ls : List (List Int)) (x : List Int) (D : Nat → Nat) (V : Nat) : headsI (Ls ++ [x]) (fun j => if j = Ls.length then V else D j) = headsI Ls D ++ [.slice (some ⟨V, 0, none⟩) x.length x.length] := by
  unfold headsI
  rw [List.length_append, List.length_singleton, List.range_succ, List.map_append]
  congr 1
  · refine List.map_congr_left fun j hj => ?_
    have hj := List.mem_range.1 hj
    show Value.slice (some ⟨(if j = Ls.length then V else D j), 0, none⟩) _ _ = _
    rw [if_neg (by omega)]
    have : (Ls ++ [x]).getD j [] = Ls.getD j [] := by simp [List.getD, List.getElem?_append_left hj]
    rw [this]
  · simp [List.getD]
theorem RowsI.keep {w w' : World} {lo hi lo' hi' : Nat} {Ls : List (List Int)} {D : Nat → Nat} (h : RowsI w lo hi Ls D) (hl : lo' ≤ lo) (hh : hi ≤ hi') (hk : ∀ i cs, lo ≤ i → i < hi → Bk w i 3 cs → w'.heap[i]? = w.heap[i]?) : RowsI w' lo' hi' Ls D := by
  obtain ⟨h0, h1⟩ := h
  refine ⟨fun j xs hj => ?_, h1⟩
  obtain ⟨a, b, cs, hb, hc⟩ := h0 j xs hj
  exact ⟨by omega, by omega, cs, (hk _ cs a b hb).trans hb, hc⟩
theorem RowsI.nil (w : World) (lo hi : Nat) (D : Nat → Nat) : RowsI w lo hi [] D := ⟨fun j xs h => by simp at h, fun i j _ h => absurd h (by simp)⟩
theorem RowsI.snoc {w : World} {lo hi hi' V : Nat} {Ls : List (List Int)} {x : List Int} {D : Nat → Nat} (h : RowsI w lo hi Ls D) (hV : hi ≤ V) (hl : lo ≤ V) (hh : V < hi') {cs : Array Value} (hb : Bk w V 3 cs) (hc : ∀ (a : Nat) (v : Value), (ints x)[a]? = some v → cs[a]? = some v) :
    RowsI w lo hi' (Ls ++ [x]) (fun j => if j = Ls.length then V else D j) := by
  obtain ⟨h0, h1⟩ := h
  refine ⟨fun j xs hj => ?_, fun i j hij hj => ?_⟩
  · show lo ≤ (if j = Ls.length then V else D j) ∧ (if j = Ls.length then V else D j) < hi' ∧ ∃ cs, Bk w (if j = Ls.length then V else D j) 3 cs ∧ ∀ (a : Nat) (v : Value), (ints xs)[a]? = some v → cs[a]? = some v
    by_cases e : j = Ls.length
    · rw [if_pos e]
      rw [List.getElem?_append_right (by omega), e, Nat.sub_self] at hj
      simp at hj
      subst hj
      exact ⟨hl, hh, cs, hb, hc⟩
    · have hjl := (List.getElem?_eq_some_iff.1 hj).1
      rw [List.length_append, List.length_singleton] at hjl
      rw [if_neg e]
      rw [List.getElem?_append_left (by omega)] at hj
      obtain ⟨a, b, r⟩ := h0 j xs hj
      exact ⟨a, by omega, r⟩
  · rw [List.length_append, List.length_singleton] at hj
    show (if i = Ls.length then V else D i) < (if j = Ls.length then V else D j)
    rw [if_neg (by omega)]
    by_cases e : j = Ls.length
    · rw [if_pos e]
      have hil : i < Ls.length := by omega
      have := (h0 i _ (List.getElem?_eq_getElem hil)).2.1
      omega
    · rw [if_neg e]; exact h1 i j hij (by omega)
theorem rowsI_own {w : World} {lo hi : Nat} {A : Option Addr} {Ls : List (List Int)} {D : Nat → Nat} (hH : OwnVs w lo hi 39 A (headsI Ls D)) (hT : RowsI w lo hi Ls D) : OwnVss w lo hi 39 3 A (vsIss Ls) := fun hn => by
  rw [vsIss_length] at hn
  obtain ⟨g, cs, hA, h0, h1, hb, hx⟩ := hH (by rw [headsI_length]; exact hn)
  refine ⟨g, cs, fun i => some ⟨D i, 0, none⟩, fun i => (Ls.getD i []).length, hA, h0, h1, hb, fun i vs hi' => ?_, fun i j vs us hij hi' hj _ _ e => ?_⟩
  · obtain ⟨xs, hxs, rfl⟩ := vsIss_inv hi'
    have e : Ls.getD i [] = xs := by simp [List.getD, hxs]
    show cs[i]? = some (Value.slice (some ⟨D i, 0, none⟩) (ints xs).length (Ls.getD i []).length) ∧ _
    rw [ints_length, e]
    refine ⟨hx i _ (headsI_at hxs), fun _ => ?_⟩
    obtain ⟨a, b, cr, hbr, hc⟩ := hT.1 i xs hxs
    exact ⟨D i, cr, rfl, a, b, hbr, hc⟩
  · obtain ⟨ys, hys, rfl⟩ := vsIss_inv hj
    have hjl := (List.getElem?_eq_some_iff.1 hys).1
    injection e with e
    injection e with e
    have := hT.2 i j hij hjl
    omega
/-- A list of lists that appends have made. -/
def PR (w wr : World) (v : Value) (Ls : List (List Int)) : Prop :=
  ∃ g cap D, v = .slice (some ⟨g, 0, none⟩) Ls.length cap ∧ w.heap.size ≤ g ∧ wr.ownsRow w.heap.size 39 1 (.slice (some ⟨g, 0, none⟩) Ls.length cap) Ls.length (headsI Ls D) ∧ RowsI wr w.heap.size wr.heap.size Ls D ∧ Below w.heap.size w wr
theorem PR.below {w wr wv : World} {v : Value} {Ls : List (List Int)} (h : PR w wr v Ls) (hb : Below wr.heap.size wr wv) : PR w wv v Ls := by
  obtain ⟨g, cap, D, e, hg, hown, hrows, hbel⟩ := h
  exact ⟨g, cap, D, e, hg, hown.kept (grown_of_below hb none) (by simp [Value.ownBlock]), hrows.keep (Nat.le_refl _) hb.size fun i _ _ h2 _ => hb.block i h2, below_on hbel hb⟩
theorem pr_start (w : World) : PR w (w.alloc (.cells #[] 39)) (.slice (some ⟨w.heap.size, 0, none⟩) 0 0) [] :=
  ⟨w.heap.size, 0, fun _ => 0, rfl, Nat.le_refl _, World.ownsRow_made w #[] 0 (Nat.le_refl _) (by decide) (by simp), RowsI.nil _ _ _ _, (Below.refl _ _).alloc (Nat.le_refl _) _⟩
theorem pr_next {w wr w4 : World} {g cap : Nat} {D : Nat → Nat} {Ls : List (List Int)} {x : List Int} {cs : Array Value} {o : Obj} (hbel : Below w.heap.size w wr) (hrows : RowsI wr w.heap.size wr.heap.size Ls D)
    (own : wr.ownsRow w.heap.size 39 1 (.slice (some ⟨g, 0, none⟩) Ls.length cap) Ls.length (headsI Ls D)) (hc : ∀ (a : Nat) (v : Value), (ints x)[a]? = some v → cs[a]? = some v)
    (grow4 : ((wr.alloc (.cells cs 3)).alloc o).grownBy w4 (Value.slice (some ⟨g, 0, none⟩) Ls.length cap).ownBlock) :
    RowsI w4 w.heap.size w4.heap.size (Ls ++ [x]) (fun j => if j = Ls.length then wr.heap.size else D j) ∧ Below w.heap.size w w4 := by
  obtain ⟨g0, g1, cu, hcu⟩ := owns_block own (q := g) rfl
  have hz1 := hbel.size
  have hz4 : wr.heap.size + 1 + 1 ≤ w4.heap.size := by have := grow4.size; simpa using this
  have h4 : ∀ z, z < wr.heap.size + 1 → z ≠ g → w4.heap[z]? = (wr.alloc (.cells cs 3)).heap[z]? := fun z hz hne => (grow4.block z (by simp; omega) (fun e => hne (by injection e))).trans (Below.heap_alloc _ o z (by simp; omega))
  have hB : Below w.heap.size w w4 := ((hbel.alloc (by omega) (.cells cs 3)).alloc (by simp; omega) o).grown grow4 (by simp; omega) (fun q hq => by cases hq; omega)
  refine ⟨(hrows.keep (Nat.le_refl _) (Nat.le_refl _) fun z cz a b hz => ?_).snoc (Nat.le_refl _) hz1 (by omega) ((h4 wr.heap.size (by omega) (by omega)).trans (Bk.new _ _ _)) hc, hB⟩
  refine (h4 z (by omega) fun e => ?_).trans (Below.heap_alloc wr _ z b)
  subst e
  unfold Bk at hz hcu
  rw [hcu] at hz
  injection hz with hz
  injection hz with _ hz
  cases hz
theorem cells2 (i k : Nat) : ∀ (a : Nat) (v : Value), (ints [(i : Int), (k : Int)])[a]? = some v → (#[.int .i64 (i : Int), .int .i64 (k : Int)] : Array Value)[a]? = some v := by
  intro a v h
  simpa [ints] using h
/-- Pairs, and whether there are any to tell. -/
def AnsIss (w : World) (o : List (List Int)) (r : Bool) (e : Ending) (w' : World) : Prop :=
  ∃ k : IssH, e = .returned (.tuple #[IssV k o, .bool r]) ∧ Below w.heap.size w w' ∧ w.heap.size ≤ w'.heap.size ∧ IssO w' w.heap.size w'.heap.size k o
theorem PR.own {w wr : World} {v : Value} {Ls : List (List Int)} (h : PR w wr v Ls) : ∃ k : IssH, v = IssV k Ls ∧ Below w.heap.size w wr ∧ IssO wr w.heap.size wr.heap.size k Ls := by
  obtain ⟨g, cap, D, e, hg, hown, hrows, hbel⟩ := h
  exact ⟨⟨some ⟨g, 0, none⟩, cap⟩, e, hbel, ⟨rowsI_own (own_vs hown rfl) hrows⟩⟩
/-! ### lists of lists whose rows may have room to spare -/
def headsC (Ls : List (List Int)) (D C : Nat → Nat) : List Value := (List.range Ls.length).map fun j => .slice (some ⟨D j, 0, none⟩) (Ls.getD j []).length (C j)
@[simp] theorem headsC_length (Ls : List (List Int)) (D C : Nat → Nat) : (headsC Ls D C).length = Ls.length := by simp [headsC]
theorem headsC_at {Ls : List (List Int)} {D C : Nat → Nat} {j : Nat} {xs : List Int} (h : Ls[j]? = some xs) : (headsC Ls D C)[j]? = some (.slice (some ⟨D j, 0, none⟩) xs.length (C j)) := by
  have hl := (List.getElem?_eq_some_iff.1 h).1
  simp [headsC, hl]
  have : Ls[j] = xs := (List.getElem?_eq_some_iff.1 h).2
  rw [this]
theorem rowsC_own {w : World} {lo hi : Nat} {A : Option Addr} {Ls : List (List Int)} {D C : Nat → Nat} (hH : OwnVs w lo hi 39 A (headsC Ls D C)) (hT : RowsI w lo hi Ls D) : OwnVss w lo hi 39 3 A (vsIss Ls) := fun hn => by
  rw [vsIss_length] at hn
  obtain ⟨g, cs, hA, h0, h1, hb, hx⟩ := hH (by rw [headsC_length]; exact hn)
  refine ⟨g, cs, fun i => some ⟨D i, 0, none⟩, C, hA, h0, h1, hb, fun i vs hi' => ?_, fun i j vs us hij hi' hj _ _ e => ?_⟩
  · obtain ⟨xs, hxs, rfl⟩ := vsIss_inv hi'
    rw [ints_length]
    refine ⟨hx i _ (headsC_at hxs), fun _ => ?_⟩
    obtain ⟨a, b, cr, hbr, hc⟩ := hT.1 i xs hxs
    exact ⟨D i, cr, rfl, a, b, hbr, hc⟩
  · obtain ⟨ys, hys, rfl⟩ := vsIss_inv hj
    have hjl := (List.getElem?_eq_some_iff.1 hys).1
    injection e with e
    injection e with e
    have := hT.2 i j hij hjl
    omega
end Go.Proofs.Ytiljakbjbiinkaa
namespace Go.Proofs.Ytiljakbjbiinkaa
open Go.RowKit Pl Go.BigFrame
set_option maxHeartbeats 4000000
set_option maxRecDepth 100000
set_option linter.unusedVariables false

def setF (D : Nat → Nat) (n v : Nat) : Nat → Nat := fun j => if j = n then v else D j
theorem headsC_snoc (Ls : List (List Int)) (x : List Int) (D C : Nat → Nat) (V c : Nat) : headsC (Ls ++ [x]) (setF D Ls.length V) (setF C Ls.length c) = headsC Ls D C ++ [.slice (some ⟨V, 0, none⟩) x.length c] := by
  unfold headsC setF
  rw [List.length_append, List.length_singleton, List.range_succ, List.map_append]
  congr 1
  · refine List.map_congr_left fun j hj => ?_
    have hj := List.mem_range.1 hj
    have : (Ls ++ [x]).getD j [] = Ls.getD j [] := by simp [List.getD, List.getElem?_append_left hj]
    rw [this, if_neg (by omega), if_neg (by omega)]
  · simp [List.getD]
theorem row_next {w w1 w4 : World} {g cap hi g1 : Nat} {D : Nat → Nat} {Ls : List (List Int)} {x : List Int} {cs : Array Value} {o : Obj} {vs : List Value} {m : Nat} (hbel : Below w.heap.size w w1) (hrows : RowsI w1 w.heap.size hi Ls D) (hhi : hi ≤ g1) (hlo : w.heap.size ≤ hi)
    (own : w1.ownsRow w.heap.size 39 1 (.slice (some ⟨g, 0, none⟩) m cap) m vs) (hb : Bk w1 g1 3 cs) (hc : ∀ (a : Nat) (v : Value), (ints x)[a]? = some v → cs[a]? = some v)
    (grow4 : (w1.alloc o).grownBy w4 (Value.slice (some ⟨g, 0, none⟩) m cap).ownBlock) (hgg : w.heap.size ≤ g) :
    RowsI w4 w.heap.size w4.heap.size (Ls ++ [x]) (setF D Ls.length g1) ∧ Below w.heap.size w w4 := by
  obtain ⟨g0, g1', cu, hcu⟩ := owns_block own (q := g) rfl
  have hz1 := hbel.size
  have hl1 := hb.lt
  have hz4 : w1.heap.size + 1 ≤ w4.heap.size := by have := grow4.size; simpa using this
  have h4 : ∀ z, z < w1.heap.size → z ≠ g → w4.heap[z]? = w1.heap[z]? := fun z hz hne => (grow4.block z (by simp; omega) (fun e => hne (by injection e))).trans (Below.heap_alloc _ o z hz)
  have hB : Below w.heap.size w w4 := (hbel.alloc (by omega) o).grown grow4 (by simp; omega) (fun q hq => by cases hq; omega)
  have hne : ∀ z cz, Bk w1 z 3 cz → z ≠ g := fun z cz hz e => by
    subst e
    unfold Bk at hz hcu
    rw [hcu] at hz
    injection hz with hz
    injection hz with _ hz
    cases hz
  refine ⟨(hrows.keep (Nat.le_refl _) (Nat.le_refl _) fun z cz a b hz => h4 z (by omega) (hne z cz hz)).snoc hhi (by omega) (by omega) ((h4 g1 hl1 (hne g1 cs hb)).trans hb) hc, hB⟩
end Go.Proofs.Ytiljakbjbiinkaa
namespace Go.Proofs.Ytiljakbjbiinkaa
open Go.RowKit Pl Go.BigFrame
set_option maxHeartbeats 4000000
set_option maxRecDepth 100000
set_option linter.unusedVariables false

/-- The state with which a program begins. -/
def viewBegS (L : Pg) : Vwd := ⟨begS L, List.replicate 3 [⟨0, [0, 0, 0], false⟩], List.replicate L.length [0, 0, 0], List.replicate 2 [0, 0, 0], List.replicate 2 [0, 0, 0], [0, 0, 0]⟩
def viewBegE (L : Pg) : Vwd := if progB L then viewBegS L else VwdE
/-- Lists of numbers that are there for good, wherever they are. -/
def AnsIssI (w : World) (L : Iss) (e : Ending) (w' : World) : Prop := ∃ k : IssH, e = .returned (IssV k L) ∧ Below w.heap.size w w' ∧ w.heap.size ≤ w'.heap.size ∧ IssI w' w.heap.size w'.heap.size k L
theorem s9zeros_any (m : Nat) (w : World) (hm : m ≤ 3) (M : Int) (hM : M = (m : Int)) :
    Calls Try.prog 129 #[.int .i64 M] w (AnsIssI w (List.replicate m [0, 0, 0])) := by
  subst hM
  obtain ⟨i1, hi1, jz0, jz1, jz2⟩ := info_parts Try.info39
  have start : Hid ((w.alloc (.cells #[] 39)).ownsRow w.heap.size 39 1 (.slice (some ⟨w.heap.size, 0, none⟩) 0 0) 0 []) := Lib.hid (World.ownsRow_made w #[] 0 (Nat.le_refl _) (by decide) (by simp))
  go_enter Try.func129, Try.ntmps129
  go_wp2
  go_loopw [3, 4] (fun v i wr => ∃ (k g cap : Nat) (D C : Nat → Nat), k ≤ m ∧ i = .int .i64 k ∧ v = .slice (some ⟨g, 0, none⟩) k cap ∧ w.heap.size ≤ g ∧ wr.ownsRow w.heap.size 39 1 (.slice (some ⟨g, 0, none⟩) k cap) k (headsC (List.replicate k [0, 0, 0]) D C) ∧ RowsI wr w.heap.size wr.heap.size (List.replicate k [0, 0, 0]) D ∧ Below w.heap.size w wr) (fun _ i _ => m - (intOf i).toNat)
  case atStart => exact ⟨0, _, 0, fun _ => 0, fun _ => 0, Nat.zero_le _, rfl, rfl, Nat.le_refl _, start.out, RowsI.nil _ _ _ _, (Below.refl _ _).alloc (Nat.le_refl _) _⟩
  case round =>
    obtain ⟨k, g, cap, D, C, hk, rfl, rfl, hgg, hown, hrows, hbel⟩ := hrel
    clear start
    have hz := hbel.size
    by_cases hlt : k < m
    · have hkm : (k : Int) < (m : Int) := by omega
      have HF := Lib.hid (fill_any 0 3 3 rfl wr (by omega))
      have Hown := Lib.hid hown
      have Hrows := Lib.hid hrows
      have Hb := Lib.hid hbel
      clear hown hrows hbel
      go_wp2_with fail
      refine HF.out.mono ?_
      rintro e w1 ⟨g1, c1, rfl, hc1, hc2, hg1, hb1, ho1⟩
      rw [List.length_replicate] at hc1 ⊢
      obtain ⟨gx, cs, hA, -, hg1l, hbk, hcs⟩ := ho1 (by rw [ints_length, List.length_replicate]; omega)
      injection hA with hA
      injection hA with hA
      subst hA
      have Hown1 := Lib.hid (Hown.out.kept (grown_of_below hb1 none) (by simp [Value.ownBlock]))
      have Hrows1 := Lib.hid (Hrows.out.keep (w' := w1) (Nat.le_refl _) (Nat.le_refl _) fun i _ _ h2 _ => hb1.block i h2)
      have Hb1 := Lib.hid (below_on Hb.out hb1)
      have Hbk := Lib.hid hbk
      have Hcs := Lib.hid hcs
      have hz1 := hb1.size
      clear hb1 ho1 hbk hcs HF
      go_wp2_with (at_builtin; refine wpList_append_own _ rfl (.tmp 11) (.tmp 13) 43 rfl w.heap.size 39 i1 _ 1 24 Try.underlying43 hi1 jz0 jz1 jz2 rfl (by decide) _ k _ rfl (Hown1.out.alloc _) ⟨_, 0, none⟩ 1 1 [.slice (some ⟨g1, 0, none⟩) 3 c1] rfl rfl (cell1_new _ _ _) (by intro u hu; simp at hu; subst hu; rfl) (by unfold maxLen; omega) (by omega) (by simp; omega) ?_; intro v' w3 own3 grow3 _; obtain ⟨g3, cap3, rfl, hg3, hlt3⟩ := own3.form (by omega); have Own3 := Lib.hid own3; have N3 := Lib.hid (row_next Hb1.out Hrows1.out hg1 hz Hown1.out Hbk.out Hcs.out grow3 hgg); clear own3 grow3)
      go_roundw
      case rel => exact ⟨k + 1, g3, cap3, setF D k g1, setF C k c1, by omega, by go_num, rfl, hg3, by
        have h1 := headsC_snoc (List.replicate k [0, 0, 0]) [0, 0, 0] D C g1 c1
        rw [List.length_replicate, ← List.replicate_succ'] at h1
        rw [h1]; exact Own3.out, by
        have h2 := N3.out.1
        rw [List.length_replicate, show List.replicate 3 (0 : Int) = [0, 0, 0] from rfl, ← List.replicate_succ'] at h2
        exact h2, N3.out.2⟩
      case measure => simp [intOf]; omega
    · have hkl : k = m := by omega
      subst hkl
      have Hown := Lib.hid hown
      have Hrows := Lib.hid hrows
      clear hown hrows
      go_wp2
      go_ret
      have IO : IssO wr w.heap.size wr.heap.size ⟨some ⟨g, 0, none⟩, cap⟩ (List.replicate k [0, 0, 0]) := ⟨rowsC_own (own_vs Hown.out rfl) Hrows.out⟩
      exact ⟨⟨some ⟨g, 0, none⟩, cap⟩, by rw [IssV, List.length_replicate]; rfl, hbel, hbel.size, IO.in_⟩
end Go.Proofs.Ytiljakbjbiinkaa
