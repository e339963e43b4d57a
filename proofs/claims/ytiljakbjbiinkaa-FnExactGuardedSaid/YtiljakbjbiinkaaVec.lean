/-
  Contracts of the laws' functions over lists of numbers and of truths: sizes, copies, equality, marks, held marks.
-/
import Derived.Test.YtiljakbjbiinkaaOnly
import Derived.Deep.AppendLies
import Derived.Test.YtiljakbjbiinkaaCopy
namespace Go.Proofs.Ytiljakbjbiinkaa
open Go.RowKit Pl

def ints (xs : List Int) : List Value := xs.map (Value.int .i64)
def bools (xs : List Bool) : List Value := xs.map Value.bool
@[simp] theorem ints_length (xs : List Int) : (ints xs).length = xs.length := by simp [ints]
@[simp] theorem bools_length (xs : List Bool) : (bools xs).length = xs.length := by simp [bools]
theorem ints_at {xs : List Int} {k : Nat} {x : Int} (h : xs[k]? = some x) : (ints xs)[k]? = some (.int .i64 x) := by simp [ints, h]
theorem bools_at {xs : List Bool} {k : Nat} {x : Bool} (h : xs[k]? = some x) : (bools xs)[k]? = some (.bool x) := by simp [bools, h]

/-- A slice's address leads to these values, below block B. -/
def Vs (w : World) (B : Nat) (A : Option Addr) (vs : List Value) : Prop :=
  0 < vs.length → ∃ b off, A = some ⟨b, off, none⟩ ∧ b < B ∧ ∀ (j : Nat) (v : Value), vs[j]? = some v → w.cell? ⟨b, off + j, none⟩ = some v
theorem Vs.keep {w w' : World} {B B' : Nat} {A : Option Addr} {vs : List Value} (h : Vs w B A vs) (hB : B ≤ B') (hk : ∀ b o, b < B → w'.cell? ⟨b, o, none⟩ = w.cell? ⟨b, o, none⟩) : Vs w' B' A vs := fun hn => by
  obtain ⟨b, off, hA, hb, hx⟩ := h hn
  exact ⟨b, off, hA, by omega, fun j v hj => (hk b _ hb).trans (hx j v hj)⟩
theorem Vs.below {w w' : World} {B B' : Nat} {A : Option Addr} {vs : List Value} (h : Vs w B A vs) (hb : Below B' w w') (hB : B ≤ B') : Vs w' B A vs :=
  h.keep (Nat.le_refl _) fun b o hlt => hb.cell (p := ⟨b, o, none⟩) (by show b < B'; omega)
theorem Vs.up {w w' : World} {B B' B'' : Nat} {A : Option Addr} {vs : List Value} (h : Vs w B A vs) (hb : Below B' w w') (hB : B ≤ B') (hB2 : B ≤ B'') : Vs w' B'' A vs :=
  h.keep hB2 fun b o hlt => hb.cell (p := ⟨b, o, none⟩) (by show b < B'; omega)
theorem Vs.nil (w : World) (B : Nat) (A : Option Addr) : Vs w B A [] := fun h => absurd h (by simp)
theorem Vs.int_ {w : World} {B : Nat} {A : Option Addr} {xs : List Int} (h : Vs w B A (ints xs)) {k : Nat} (hk : k < xs.length) :
    ∃ b off x, A = some ⟨b, off, none⟩ ∧ b < B ∧ xs[k]? = some x ∧ xs.drop k = x :: xs.drop (k + 1) ∧ w.cell? ⟨b, off + k, none⟩ = some (.int .i64 x) := by
  obtain ⟨b, off, hA, hb, hx⟩ := h (by rw [ints_length]; omega)
  obtain ⟨x, h1, h2⟩ := drop_at hk
  exact ⟨b, off, x, hA, hb, h1, h2, hx k _ (ints_at h1)⟩
theorem Vs.bool_ {w : World} {B : Nat} {A : Option Addr} {xs : List Bool} (h : Vs w B A (bools xs)) {k : Nat} (hk : k < xs.length) :
    ∃ b off x, A = some ⟨b, off, none⟩ ∧ b < B ∧ xs[k]? = some x ∧ xs.drop k = x :: xs.drop (k + 1) ∧ w.cell? ⟨b, off + k, none⟩ = some (.bool x) := by
  obtain ⟨b, off, hA, hb, hx⟩ := h (by rw [bools_length]; omega)
  obtain ⟨x, h1, h2⟩ := drop_at hk
  exact ⟨b, off, x, hA, hb, h1, h2, hx k _ (bools_at h1)⟩

/-- Values of the call's own: their block lies from lo on, below hi. -/
def OwnVs (w : World) (lo hi : Nat) (t : TypeId) (A : Option Addr) (vs : List Value) : Prop :=
  0 < vs.length → ∃ g cs, A = some ⟨g, 0, none⟩ ∧ lo ≤ g ∧ g < hi ∧ Bk w g t cs ∧ ∀ (j : Nat) (v : Value), vs[j]? = some v → cs[j]? = some v
theorem OwnVs.vs {w : World} {lo hi : Nat} {t : TypeId} {A : Option Addr} {vs : List Value} (h : OwnVs w lo hi t A vs) : Vs w hi A vs := fun hn => by
  obtain ⟨g, cs, hA, _, hg, hb, hx⟩ := h hn
  exact ⟨g, 0, hA, hg, fun j v hj => by rw [Nat.zero_add]; exact (hb.cell j).trans (hx j v hj)⟩
theorem OwnVs.keep {w w' : World} {lo hi lo' hi' : Nat} {t : TypeId} {A : Option Addr} {vs : List Value} (h : OwnVs w lo hi t A vs) (hl : lo' ≤ lo) (hh : hi ≤ hi') (hk : ∀ i, lo ≤ i → i < hi → w'.heap[i]? = w.heap[i]?) : OwnVs w' lo' hi' t A vs := fun hn => by
  obtain ⟨g, cs, hA, h0, hg, hb, hx⟩ := h hn
  exact ⟨g, cs, hA, by omega, by omega, (hk g h0 hg).trans hb, hx⟩
theorem OwnVs.below {w w' : World} {lo hi : Nat} {t : TypeId} {A : Option Addr} {vs : List Value} {B : Nat} (h : OwnVs w lo hi t A vs) (hb : Below B w w') (hB : hi ≤ B) : OwnVs w' lo hi t A vs :=
  h.keep (Nat.le_refl _) (Nat.le_refl _) fun i _ hi => hb.block i (by omega)
theorem OwnVs.nil (w : World) (lo hi : Nat) (t : TypeId) (A : Option Addr) : OwnVs w lo hi t A [] := fun h => absurd h (by simp)
theorem OwnVs.more {w : World} {lo hi lo' hi' : Nat} {t : TypeId} {A : Option Addr} {vs : List Value} (h : OwnVs w lo hi t A vs) (hl : lo' ≤ lo) (hh : hi ≤ hi') : OwnVs w lo' hi' t A vs := h.keep hl hh fun _ _ _ => rfl
/-- What a row that appends have made owns. -/
theorem own_vs {w : World} {base : Nat} {t : TypeId} {v : Value} {n : Nat} {vs : List Value} (h : w.ownsRow base t 1 v n vs) {A : Option Addr} {c : Nat} (hv : v = .slice A n c) : OwnVs w base w.heap.size t A vs := fun hn => by
  rcases h.2 with ⟨_, h0⟩ | ⟨g, cap, cur, hv', hb, hh, _, _, _, htake⟩
  · have := h.1; omega
  · rw [hv] at hv'
    injection hv' with hA
    subst hA
    have hg : g < w.heap.size := Bk.lt (t := t) (cs := cur) hh
    refine ⟨g, cur, rfl, hb, hg, hh, fun j u hj => ?_⟩
    rw [← htake, List.getElem?_take] at hj
    split at hj
    · simpa using hj
    · cases hj

/-- What a copy of values has come to behind k rounds. -/
def CopyV (w wr : World) (t : TypeId) (vs : List Value) (k : Nat) : Prop :=
  Below w.heap.size w wr ∧ ∃ cs, Bk wr w.heap.size t cs ∧ cs.size = vs.length ∧ ∀ (j : Nat) (v : Value), j < k → vs[j]? = some v → cs[j]? = some v
theorem CopyV.next {w wr : World} {t : TypeId} {vs : List Value} {k : Nat} {v : Value} (h : CopyV w wr t vs k) (hx : vs[k]? = some v) :
    CopyV w (wr.setCell ⟨w.heap.size, k, none⟩ v) t vs (k + 1) := by
  obtain ⟨h0, cs, hbk, hsz, hc⟩ := h
  have hk : k < vs.length := (List.getElem?_eq_some_iff.1 hx).1
  refine ⟨h0.setCell (Nat.le_refl _) _, _, hbk.set k v, by simpa using hsz, fun j u hj hu => ?_⟩
  by_cases e : j = k
  · subst e
    rw [hx] at hu
    simp [hsz, hk]
    injection hu
  · rw [Array.getElem?_setIfInBounds_ne (by omega)]
    exact hc j u (by omega) hu
theorem CopyV.done {w wr : World} {t : TypeId} {vs : List Value} (h : CopyV w wr t vs vs.length) : OwnVs wr w.heap.size (w.heap.size + 1) t (some ⟨w.heap.size, 0, none⟩) vs := fun _ => by
  obtain ⟨_, cs, hbk, _, hc⟩ := h
  exact ⟨_, cs, rfl, Nat.le_refl _, by omega, hbk, fun j v hj => hc j v (List.getElem?_eq_some_iff.1 hj).1 hj⟩
theorem CopyV.lt {w wr : World} {t : TypeId} {vs : List Value} {k : Nat} (h : CopyV w wr t vs k) : w.heap.size < wr.heap.size := by
  obtain ⟨_, cs, hbk, _⟩ := h
  exact hbk.lt

/-- The numbers that the laws' marks write into a row of numbers, and of truths. -/
def upI (K : Int) (n : Nat) : List Int := (List.range n).map fun j : Nat => K + (j : Int)
def upB (K : Int) (n : Nat) : List Bool := (List.range n).map fun j : Nat => (K + (j : Int)) % 3 == 0
@[simp] theorem upI_length (K : Int) (n : Nat) : (upI K n).length = n := by simp [upI]
@[simp] theorem upB_length (K : Int) (n : Nat) : (upB K n).length = n := by simp [upB]
theorem upI_at (K : Int) {n k : Nat} (h : k < n) : (upI K n)[k]? = some (K + (k : Int)) := by simp [upI, h]
theorem upB_at (K : Int) {n k : Nat} (h : k < n) : (upB K n)[k]? = some ((K + (k : Int)) % 3 == 0) := by simp [upB, h]
/-- What marks have come to in one block behind k values. -/
def MarkV (w wr : World) (g : Nat) (t : TypeId) (vs : List Value) (k : Nat) : Prop :=
  Only g (g + 1) w wr ∧ ∃ cs, Bk wr g t cs ∧ vs.length ≤ cs.size ∧ ∀ (j : Nat) (v : Value), j < k → vs[j]? = some v → cs[j]? = some v
theorem MarkV.next {w wr : World} {g : Nat} {t : TypeId} {vs : List Value} {k : Nat} {v : Value} (h : MarkV w wr g t vs k) (hx : vs[k]? = some v) :
    MarkV w (wr.setCell ⟨g, k, none⟩ v) g t vs (k + 1) := by
  obtain ⟨h0, cs, hbk, hsz, hc⟩ := h
  have hk : k < vs.length := (List.getElem?_eq_some_iff.1 hx).1
  refine ⟨h0.setCell (Nat.le_refl _) (Nat.lt_succ_self _) _, _, hbk.set k v, by simpa using hsz, fun j u hj hu => ?_⟩
  by_cases e : j = k
  · subst e
    rw [hx] at hu
    have : j < cs.size := by omega
    simp [this]
    injection hu
  · rw [Array.getElem?_setIfInBounds_ne (by omega)]
    exact hc j u (by omega) hu
theorem MarkV.done {w wr : World} {g : Nat} {t : TypeId} {vs : List Value} (h : MarkV w wr g t vs vs.length) : OwnVs wr g (g + 1) t (some ⟨g, 0, none⟩) vs := fun _ => by
  obtain ⟨_, cs, hbk, _, hc⟩ := h
  exact ⟨g, cs, rfl, Nat.le_refl _, by omega, hbk, fun j v hj => hc j v (List.getElem?_eq_some_iff.1 hj).1 hj⟩

theorem cell1_new (w : World) (v : Value) (t : TypeId) : ∀ j u, [v][j]? = some u → (w.alloc (.cells #[v] t)).cell? ((⟨w.heap.size, 0, none⟩ : Addr).add j) = some u := by
  intro j u hj
  have e : (⟨w.heap.size, 0, none⟩ : Addr).add j = ⟨w.heap.size, j, none⟩ := by unfold Addr.add; split <;> simp_all
  have := (Bk.new w #[v] t).cell j
  rw [e, this, ← hj]
  simp
end Go.Proofs.Ytiljakbjbiinkaa
namespace Go.Proofs.Ytiljakbjbiinkaa
open Go.RowKit Pl
set_option maxHeartbeats 400000
set_option linter.unusedVariables false

theorem Try.info3 : (Try.prog.info? 3).map (fun i => (i.zero, i.size, i.bytes)) = some (some (.int .i64 0), 1, 8) := by kernel_rfl
theorem Try.info4 : (Try.prog.info? 4).map (fun i => (i.zero, i.size, i.bytes)) = some (some (.bool false), 1, 1) := by kernel_rfl

theorem szInt_any (A : Option Addr) (n c : Nat) (left : Int) (w : World) (hn : n ≤ maxLen) (h0 : 0 ≤ left) (h1 : left ≤ 1048576) :
    Calls Try.prog 76 #[.slice A n c, .int .i64 left] w fun e w' => e = .returned (.int .i64 (sz1 left n)) ∧ w = w' := by
  unfold maxLen at hn
  by_cases h : left - n < 0
  all_goals
    have hfin : Hid (sz1 left n = if left - n < 0 then -1 else left - n) := Lib.hid rfl
    go_enter Try.func76, Try.ntmps76
    go_wp2
    go_ret
    refine ⟨?_, rfl⟩
    rw [hfin.out]
    first | (rw [if_pos (by omega)]; rfl) | (rw [if_neg (by omega)]; rfl)
theorem toInt_any (A : Option Addr) (xs : List Int) (c : Nat) (w : World) (B : Nat) (h : Vs w B A (ints xs)) (hB : B ≤ w.heap.size) (hm : xs.length ≤ 1048576) :
    Calls Try.prog 85 #[.slice A xs.length c] w fun e w' => e = .returned (.slice (some ⟨w.heap.size, 0, none⟩) xs.length xs.length) ∧ CopyV w w' 3 (ints xs) (ints xs).length := by
  obtain ⟨i0, hi, hz0, hz1, hz2⟩ := info_parts Try.info3
  have hmk := make_any Try.underlying39 hi hz0 xs.length (by rw [hz2]; omega) (by omega)
  rw [hz1, Nat.mul_one] at hmk
  have start := Lib.hid (show CopyV w (w.alloc (.cells (madeCells #[.int .i64 0] xs.length) 3)) 3 (ints xs) 0 from
    ⟨(Below.refl _ _).alloc (Nat.le_refl _) _, _, Bk.new _ _ _, by simp [size_madeCells], fun j x hj => absurd hj (by omega)⟩)
  clear hz0 hz1 hz2 hi
  rw [ints_length]
  go_enter Try.func85, Try.ntmps85
  go_wp2
  go_loopw [4] (fun i wr => ∃ k : Nat, k ≤ xs.length ∧ i = .int .i64 k ∧ CopyV w wr 3 (ints xs) k) (fun i _ => xs.length - (intOf i).toNat)
  case atStart => exact ⟨0, Nat.zero_le _, rfl, start.out⟩
  case round =>
    obtain ⟨k, hk, rfl, hcp⟩ := hrel
    clear start hmk
    by_cases hlt : k < xs.length
    · obtain ⟨hbel, cs, hbk, hsz, -⟩ := id hcp
      rw [ints_length] at hsz
      obtain ⟨b, off, x, rfl, hb, hx, -, hx0⟩ := (h.below hbel hB).int_ hlt
      have Hx := Lib.hid (ints_at hx)
      have hg := hbk.lt
      have hz := hbel.size
      have hbw : b < wr.heap.size := by omega
      obtain ⟨v0, e0⟩ := hbk.some_ (i := k) (by omega)
      have q0 := hbk.free k
      clear hbk hsz h hx hbel
      have Hcp := Lib.hid hcp
      clear hcp
      go_wp2
      go_roundw
      case rel => exact ⟨k + 1, by omega, by go_num, Hcp.out.next Hx.out⟩
      case measure => simp [intOf]; omega
    · have : k = xs.length := by omega
      subst this
      go_wp2
      go_ret
      exact ⟨rfl, hcp⟩
theorem eqInt_any (A1 A2 : Option Addr) (xs ys : List Int) (c1 c2 : Nat) (w : World) (B : Nat) (h1 : Vs w B A1 (ints xs)) (h2 : Vs w B A2 (ints ys)) (hm1 : xs.length ≤ maxLen) (hm2 : ys.length ≤ maxLen) (r : Bool) (hr : Hid (decide (xs = ys) = r)) :
    Calls Try.prog 34 #[.slice A1 xs.length c1, .slice A2 ys.length c2] w fun e w' => e = .returned (.bool r) ∧ Below w.heap.size w w' := by
  unfold maxLen at hm1 hm2
  by_cases hne : xs.length = ys.length
  · have heq : ((xs.length : Int) != (ys.length : Int)) = false := by simp [hne]
    have hle : xs.length ≤ ys.length := by omega
    have hge : ys.length ≤ xs.length := by omega
    clear hne
    go_enter Try.func34, Try.ntmps34
    go_wp2
    go_loopw [5] (fun i wr => ∃ k : Nat, k ≤ xs.length ∧ i = .int .i64 k ∧ Below w.heap.size w wr ∧ (∀ b o, wr.cell? ⟨b, o, none⟩ = w.cell? ⟨b, o, none⟩) ∧ Hid (decide (xs.drop k = ys.drop k) = r)) (fun i _ => xs.length - (intOf i).toNat)
    case atStart => exact ⟨0, Nat.zero_le _, rfl, Below.refl _ _, fun _ _ => rfl, by simpa using hr⟩
    case round =>
      obtain ⟨k, hk, rfl, hbel, hsame, hrest⟩ := hrel
      clear hr heq
      by_cases hlt : k < xs.length
      · obtain ⟨b1, off1, x, rfl, hb1, -, hd1, hx0⟩ := (h1.keep (Nat.le_refl _) (fun b o _ => hsame b o)).int_ hlt
        obtain ⟨b2, off2, y, rfl, hb2, -, hd2, hy0⟩ := (h2.keep (Nat.le_refl _) (fun b o _ => hsame b o)).int_ (show k < ys.length by omega)
        have hi1 : (k : Int) < (xs.length : Int) := by omega
        have hi2 : (k : Int) < (ys.length : Int) := by omega
        have Hd1 := Lib.hid hd1
        have Hd2 := Lib.hid hd2
        have Hsame := Lib.hid hsame
        clear hd1 hd2 hsame h1 h2
        by_cases he : x = y
        · have he' : (x != y) = false := by simp [he]
          have He := Lib.hid he
          clear he
          go_wp2
          go_quiet (fail)
          go_wp2
          go_roundw
          case rel => exact ⟨k + 1, by omega, by go_num, below_drewN hbel _, fun b o => Hsame.out b o, by
            have := hrest.out
            rw [Hd1.out, Hd2.out, He.out] at this
            exact Lib.hid (by rw [← this]; simp)⟩
          case measure => simp [intOf]; omega
        · have he' : (x != y) = true := by simp [he]
          have He := Lib.hid he
          clear he
          go_wp2
          go_quiet (fail)
          go_wp2
          go_ret
          refine ⟨?_, below_drewN hbel _⟩
          have := hrest.out
          rw [Hd1.out, Hd2.out] at this
          rw [← this]
          simp [He.out]
      · have hlast : Hid (r = true) := Lib.hid (by
          have := hrest.out
          rw [List.drop_eq_nil_of_le (by omega), List.drop_eq_nil_of_le (by omega)] at this
          rw [← this]; rfl)
        go_wp2
        go_ret
        exact ⟨by rw [hlast.out]; rfl, hbel⟩
  · have hlast : Hid (r = false) := Lib.hid (by rw [← hr.out]; exact decide_eq_false (fun e => hne (by rw [e])))
    have heq : ((xs.length : Int) != (ys.length : Int)) = true := by simp; omega
    clear hr
    go_enter Try.func34, Try.ntmps34
    go_wp2
    go_ret
    exact ⟨by rw [hlast.out]; rfl, Below.refl _ _⟩
theorem eqBool_any (A1 A2 : Option Addr) (xs ys : List Bool) (c1 c2 : Nat) (w : World) (B : Nat) (h1 : Vs w B A1 (bools xs)) (h2 : Vs w B A2 (bools ys)) (hm1 : xs.length ≤ maxLen) (hm2 : ys.length ≤ maxLen) (r : Bool) (hr : Hid (decide (xs = ys) = r)) :
    Calls Try.prog 98 #[.slice A1 xs.length c1, .slice A2 ys.length c2] w fun e w' => e = .returned (.bool r) ∧ Below w.heap.size w w' := by
  unfold maxLen at hm1 hm2
  by_cases hne : xs.length = ys.length
  · have heq : ((xs.length : Int) != (ys.length : Int)) = false := by simp [hne]
    have hle : xs.length ≤ ys.length := by omega
    have hge : ys.length ≤ xs.length := by omega
    clear hne
    go_enter Try.func98, Try.ntmps98
    go_wp2
    go_loopw [5] (fun i wr => ∃ k : Nat, k ≤ xs.length ∧ i = .int .i64 k ∧ Below w.heap.size w wr ∧ (∀ b o, wr.cell? ⟨b, o, none⟩ = w.cell? ⟨b, o, none⟩) ∧ Hid (decide (xs.drop k = ys.drop k) = r)) (fun i _ => xs.length - (intOf i).toNat)
    case atStart => exact ⟨0, Nat.zero_le _, rfl, Below.refl _ _, fun _ _ => rfl, by simpa using hr⟩
    case round =>
      obtain ⟨k, hk, rfl, hbel, hsame, hrest⟩ := hrel
      clear hr heq
      by_cases hlt : k < xs.length
      · obtain ⟨b1, off1, x, rfl, hb1, -, hd1, hx0⟩ := (h1.keep (Nat.le_refl _) (fun b o _ => hsame b o)).bool_ hlt
        obtain ⟨b2, off2, y, rfl, hb2, -, hd2, hy0⟩ := (h2.keep (Nat.le_refl _) (fun b o _ => hsame b o)).bool_ (show k < ys.length by omega)
        have hi1 : (k : Int) < (xs.length : Int) := by omega
        have hi2 : (k : Int) < (ys.length : Int) := by omega
        have Hd1 := Lib.hid hd1
        have Hd2 := Lib.hid hd2
        have Hsame := Lib.hid hsame
        clear hd1 hd2 hsame h1 h2
        by_cases he : x = y
        · have he' : (!x == y) = false := by subst he; cases x <;> rfl
          have He := Lib.hid he
          clear he
          go_wp2
          go_quiet (fail)
          go_wp2
          go_roundw
          case rel => exact ⟨k + 1, by omega, by go_num, below_drewN hbel _, fun b o => Hsame.out b o, by
            have := hrest.out
            rw [Hd1.out, Hd2.out, He.out] at this
            exact Lib.hid (by rw [← this]; simp)⟩
          case measure => simp [intOf]; omega
        · have he' : (!x == y) = true := by clear hx0 hy0; cases x <;> cases y <;> simp_all
          have He := Lib.hid he
          clear he
          go_wp2
          go_quiet (fail)
          go_wp2
          go_ret
          refine ⟨?_, below_drewN hbel _⟩
          have := hrest.out
          rw [Hd1.out, Hd2.out] at this
          rw [← this]
          simp [He.out]
      · have hlast : Hid (r = true) := Lib.hid (by
          have := hrest.out
          rw [List.drop_eq_nil_of_le (by omega), List.drop_eq_nil_of_le (by omega)] at this
          rw [← this]; rfl)
        go_wp2
        go_ret
        exact ⟨by rw [hlast.out]; rfl, hbel⟩
  · have hlast : Hid (r = false) := Lib.hid (by rw [← hr.out]; exact decide_eq_false (fun e => hne (by rw [e])))
    have heq : ((xs.length : Int) != (ys.length : Int)) = true := by simp; omega
    clear hr
    go_enter Try.func98, Try.ntmps98
    go_wp2
    go_ret
    exact ⟨by rw [hlast.out]; rfl, Below.refl _ _⟩
/-- Marks over a row of numbers that is the call's own. -/
theorem markInt_any (n g c : Nat) (cs : Array Value) (K : Int) (w : World) (hbk : Bk w g 3 cs) (hsz : n ≤ cs.size) (hl : n ≤ 1048576) (hK : 0 ≤ K) (hK2 : K ≤ 1000000000) :
    Calls Try.prog 35 #[.slice (some ⟨g, 0, none⟩) n c, .int .i64 K] w fun e w' => e = .returned (.int .i64 (K + (n : Int))) ∧ MarkV w w' g 3 (ints (upI K n)) (ints (upI K n)).length := by
  have start : Hid (MarkV w w g 3 (ints (upI K n)) 0) := Lib.hid ⟨Only.refl _ _ _, cs, hbk, by simpa using hsz, fun j v hj => absurd hj (by omega)⟩
  clear hbk hsz
  rw [ints_length, upI_length]
  go_enter Try.func35, Try.ntmps35
  go_wp2
  go_loopw [1, 5] (fun q i wr => ∃ k : Nat, k ≤ n ∧ i = .int .i64 k ∧ q = .int .i64 (K + (k : Int)) ∧ MarkV w wr g 3 (ints (upI K n)) k) (fun _ i _ => n - (intOf i).toNat)
  case atStart => exact ⟨0, Nat.zero_le _, rfl, by simp, start.out⟩
  case round =>
    obtain ⟨k, hk, rfl, rfl, hmk⟩ := hrel
    clear start
    by_cases hlt : k < n
    · obtain ⟨-, cu, hb, hs, -⟩ := id hmk
      rw [ints_length, upI_length] at hs
      obtain ⟨v0, e0⟩ := hb.some_ (i := k) (by omega)
      have q0 := hb.free k
      have Next := Lib.hid (hmk.next (ints_at (upI_at K hlt)))
      clear hb hs hmk
      go_wp2
      go_roundw
      case rel => exact ⟨k + 1, by omega, by go_num, by go_num, Next.out⟩
      case measure => simp [intOf]; omega
    · have hkl : k = n := by omega
      subst hkl
      go_wp2
      go_ret
      exact ⟨rfl, hmk⟩
theorem markBool_any (n g c : Nat) (cs : Array Value) (K : Int) (w : World) (hbk : Bk w g 4 cs) (hsz : n ≤ cs.size) (hl : n ≤ 1048576) (hK : 0 ≤ K) (hK2 : K ≤ 1000000000) :
    Calls Try.prog 52 #[.slice (some ⟨g, 0, none⟩) n c, .int .i64 K] w fun e w' => e = .returned (.int .i64 (K + (n : Int))) ∧ MarkV w w' g 4 (bools (upB K n)) (bools (upB K n)).length := by
  have start : Hid (MarkV w w g 4 (bools (upB K n)) 0) := Lib.hid ⟨Only.refl _ _ _, cs, hbk, by simpa using hsz, fun j v hj => absurd hj (by omega)⟩
  clear hbk hsz
  rw [bools_length, upB_length]
  go_enter Try.func52, Try.ntmps52
  go_wp2
  go_loopw [1, 5] (fun q i wr => ∃ k : Nat, k ≤ n ∧ i = .int .i64 k ∧ q = .int .i64 (K + (k : Int)) ∧ MarkV w wr g 4 (bools (upB K n)) k) (fun _ i _ => n - (intOf i).toNat)
  case atStart => exact ⟨0, Nat.zero_le _, rfl, by simp, start.out⟩
  case round =>
    obtain ⟨k, hk, rfl, rfl, hmk⟩ := hrel
    clear start
    by_cases hlt : k < n
    · obtain ⟨-, cu, hb, hs, -⟩ := id hmk
      rw [bools_length, upB_length] at hs
      obtain ⟨v0, e0⟩ := hb.some_ (i := k) (by omega)
      have q0 := hb.free k
      have Next := Lib.hid (hmk.next (bools_at (upB_at K hlt)))
      clear hb hs hmk
      go_wp2
      go_roundw
      case rel => exact ⟨k + 1, by omega, by go_num, by go_num, Next.out⟩
      case measure => simp [intOf]; omega
    · have hkl : k = n := by omega
      subst hkl
      go_wp2
      go_ret
      exact ⟨rfl, hmk⟩
/-- A row without elements: nothing is written. -/
theorem markInt_none (A : Option Addr) (c : Nat) (K : Int) (w : World) (hK : 0 ≤ K) (hK2 : K ≤ 1000000000) :
    Calls Try.prog 35 #[.slice A 0 c, .int .i64 K] w fun e w' => e = .returned (.int .i64 K) ∧ w = w' := by
  go_enter Try.func35, Try.ntmps35
  go_wp2
  refine wp_loop_rounds 1 ?_
  rw [rounds_succ]
  go_wp2
  go_ret
  exact ⟨rfl, rfl⟩
theorem markBool_none (A : Option Addr) (c : Nat) (K : Int) (w : World) (hK : 0 ≤ K) (hK2 : K ≤ 1000000000) :
    Calls Try.prog 52 #[.slice A 0 c, .int .i64 K] w fun e w' => e = .returned (.int .i64 K) ∧ w = w' := by
  go_enter Try.func52, Try.ntmps52
  go_wp2
  refine wp_loop_rounds 1 ?_
  rw [rounds_succ]
  go_wp2
  go_ret
  exact ⟨rfl, rfl⟩
theorem heldInt_any (A : Option Addr) (n c : Nat) (K : Int) (w : World) (B : Nat) (h : Vs w B A (ints (upI K n))) (hl : n ≤ 1048576) (hK : 0 ≤ K) (hK2 : K ≤ 1000000000) :
    Calls Try.prog 36 #[.slice A n c, .int .i64 K] w fun e w' => e = .returned (.int .i64 (K + (n : Int))) ∧ w = w' := by
  go_enter Try.func36, Try.ntmps36
  go_wp2
  go_loop [1, 5] (fun q i => ∃ k : Nat, k ≤ n ∧ i = .int .i64 k ∧ q = .int .i64 (K + (k : Int))) (fun _ i => n - (intOf i).toNat)
  case atStart => exact ⟨0, Nat.zero_le _, rfl, by simp⟩
  case round =>
    obtain ⟨k, hk, rfl, rfl⟩ := hrel
    by_cases hlt : k < n
    · obtain ⟨b, off, x, rfl, hb, hx, -, hx0⟩ := h.int_ (k := k) (by rw [upI_length]; exact hlt)
      obtain rfl : K + (k : Int) = x := by
        rw [upI_at K hlt] at hx
        injection hx
      clear h hx
      go_wp2
      go_round
      case rel => exact ⟨k + 1, by omega, by go_num, by go_num⟩
      case measure => simp [intOf]; omega
    · have hkl : k = n := by omega
      subst hkl
      go_wp2
      go_ret
      exact ⟨rfl, rfl⟩
theorem heldBool_any (A : Option Addr) (n c : Nat) (K : Int) (w : World) (B : Nat) (h : Vs w B A (bools (upB K n))) (hl : n ≤ 1048576) (hK : 0 ≤ K) (hK2 : K ≤ 1000000000) :
    Calls Try.prog 53 #[.slice A n c, .int .i64 K] w fun e w' => e = .returned (.int .i64 (K + (n : Int))) ∧ w = w' := by
  go_enter Try.func53, Try.ntmps53
  go_wp2
  go_loop [1, 5] (fun q i => ∃ k : Nat, k ≤ n ∧ i = .int .i64 k ∧ q = .int .i64 (K + (k : Int))) (fun _ i => n - (intOf i).toNat)
  case atStart => exact ⟨0, Nat.zero_le _, rfl, by simp⟩
  case round =>
    obtain ⟨k, hk, rfl, rfl⟩ := hrel
    by_cases hlt : k < n
    · obtain ⟨b, off, x, rfl, hb, hx, -, hx0⟩ := h.bool_ (k := k) (by rw [upB_length]; exact hlt)
      obtain rfl : ((K + (k : Int)) % 3 == 0) = x := by
        rw [upB_at K hlt] at hx
        injection hx
      clear h hx
      go_wp2
      go_round
      case rel => exact ⟨k + 1, by omega, by go_num, by go_num⟩
      case measure => simp [intOf]; omega
    · have hkl : k = n := by omega
      subst hkl
      go_wp2
      go_ret
      exact ⟨rfl, rfl⟩
end Go.Proofs.Ytiljakbjbiinkaa
