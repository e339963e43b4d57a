/-
  Numbers within limits: the program's numbersOk and atOk, and the reference model's l2All, come to plain functions.
-/
import Derived.Test.YtnadihepgmbhaaaSize
import Derived.Test.YtnadihepgmbhaaaEq
import Derived.Test.YtnadihepgmbhaaaCopy
import Derived.Test.YtnadihepgmbhaaaMarkP
import Derived.Test.YtnadihepgmbhaaaSpecOk
import Derived.Test.YtnadihepgmbhaaaRec0
import Derived.Test.YtnadihepgmbhaaaSt
namespace Go.Proofs.Ytnadihepgmbhaaa
open Go.RowKit Pl
set_option maxHeartbeats 400000
set_option linter.unusedVariables false

abbrev Pg := List (List Sm)
structure PgH where
  A : Option Addr
  c : Nat
deriving Inhabited
abbrev PgV (h : PgH) (o : Pg) : Value := .agg #[.slice h.A o.length h.c]
def PgR (w : World) (B : Nat) (h : PgH) (o : Pg) : Prop := Rows2 w B h.A o
structure PgL (o : Pg) (m : Nat) : Prop where
  l : o.length ≤ m
structure PgO (w : World) (lo hi : Nat) (h : PgH) (o : Pg) : Prop where
  o : OwnRows2 w lo hi h.A o
section
variable {w w' : World} {B B' B'' lo hi lo' hi' : Nat} {h : PgH} {o : Pg}
theorem PgR.below (r : PgR w B h o) (hb : Below B' w w') (hB : B ≤ B') : PgR w' B h o := Rows2.below r hb hB
theorem PgR.up (r : PgR w B h o) (hb : Below B' w w') (hB : B ≤ B') (hB2 : B ≤ B'') : PgR w' B'' h o := Rows2.up r hb hB hB2
theorem PgO.keep (r : PgO w lo hi h o) (hl : lo' ≤ lo) (hh : hi ≤ hi') (hk : ∀ i, lo ≤ i → i < hi → w'.heap[i]? = w.heap[i]?) : PgO w' lo' hi' h o := ⟨r.o.keep hl hh hk⟩
theorem PgO.below (r : PgO w lo hi h o) (hb : Below B w w') (hB : hi ≤ B) : PgO w' lo hi h o := ⟨r.o.below hb hB⟩
theorem PgO.rd (r : PgO w lo hi h o) : PgR w hi h o := r.o.rows
end
/-- A program that is small enough for the laws: how long, how long each thread, how long together. -/
structure PgS (o : Pg) : Prop where
  l : o.length ≤ 1048576
  e : ∀ xs ∈ o, xs.length ≤ 1048576
  t : total o ≤ 1048576
def szPg (a : Int) (o : Pg) : Int := sz2 a o
theorem szPg_ge (a : Int) (o : Pg) (ha : 0 ≤ a) : -1 ≤ szPg a o ∧ szPg a o ≤ a := by
  refine ⟨sz2_ge _ _, ?_⟩
  have key : ∀ (L : Pg) (x : Int), 0 ≤ x → szL x L ≤ x := by
    intro L
    induction L with
    | nil => intro x _; simp [szL]
    | cons y r ih =>
      intro x hx
      unfold szL
      split
      · omega
      · have := ih _ (show 0 ≤ sz1 x y.length by omega)
        have h2 : sz1 x y.length ≤ x := by unfold sz1; split <;> omega
        omega
  unfold szPg sz2
  split
  · omega
  · have := key o (a - o.length) (by omega); omega
theorem szPg_small {a : Int} {o : Pg} (h : 0 ≤ szPg a o) (ha : 0 ≤ a) (ha2 : a ≤ 1048576) : PgS o := by
  have h1 := sz2_total h
  exact ⟨by omega, fun xs hx => by have := mem_le_total hx; omega, by omega⟩
theorem szPg_any (h : PgH) (o : Pg) (left : Int) (w : World) (B : Nat) (hR : PgR w B h o) (hB : B ≤ w.heap.size) (hL : PgL o maxLen) (h0 : 0 ≤ left) (h1 : left ≤ 1048576) (r : Int) (hr : Hid (szPg left o = r)) :
    Calls Try.prog 13 #[PgV h o, .int .i64 left] w fun e w' => e = .returned (.int .i64 r) ∧ Below w.heap.size w w' :=
  szP_any h.A o h.c left w B hR hB hL.l h0 h1 r hr (by rw [← hr.out]; exact (szPg_ge _ _ h0).1)
def ToPg (w : World) (o : Pg) (e : Ending) (w' : World) : Prop := ∃ h, e = .returned (PgV h o) ∧ Below w.heap.size w w' ∧ w.heap.size ≤ w'.heap.size ∧ PgO w' w.heap.size w'.heap.size h o
theorem toPg_any (h : PgH) (o : Pg) (w : World) (B : Nat) (hR : PgR w B h o) (hB : B ≤ w.heap.size) (hS : PgS o) :
    Calls Try.prog 15 #[PgV h o] w (ToPg w o) :=
  (toP_any h.A o h.c w B hR hB hS.l (Lib.hid hS.e)).mono fun e w' ⟨A, c, he, hb, ho⟩ => ⟨⟨A, c⟩, he, hb, hb.size, ⟨ho⟩⟩
theorem eqPg_any (h1 h2 : PgH) (o1 o2 : Pg) (w : World) (B : Nat) (r1 : PgR w B h1 o1) (r2 : PgR w B h2 o2) (hB : B ≤ w.heap.size) (L1 : PgL o1 maxLen) (L2 : PgL o2 maxLen) (r : Bool) (hr : Hid (decide (o1 = o2) = r)) :
    Calls Try.prog 18 #[PgV h1 o1, PgV h2 o2] w fun e w' => e = .returned (.bool r) ∧ Below w.heap.size w w' :=
  eqP_any h1.A h2.A o1 o2 h1.c h2.c w B r1 r2 hB L1.l L2.l r hr
theorem markPg_any (h : PgH) (o : Pg) (K : Int) (w : World) (lo hi : Nat) (hO : PgO w lo hi h o) (hhi : hi ≤ w.heap.size) (hS : PgS o) (hK : 0 ≤ K) (hK2 : K ≤ 10) :
    Calls Try.prog 19 #[PgV h o, .int .i64 K] w fun e w' => e = .returned (.int .i64 (K + 5 * (total o : Int))) ∧ Only lo hi w w' :=
  (markP_any h.A o h.c K w lo hi hO.o hhi hS.l hS.t hK hK2).mono fun e w' ⟨he, ho, _⟩ => ⟨he, ho⟩
theorem PgS_L {o : Pg} (s : PgS o) : PgL o maxLen := ⟨by unfold maxLen; have := s.l; omega⟩
end Go.Proofs.Ytnadihepgmbhaaa
namespace Go.Proofs.Ytnadihepgmbhaaa
open Go.RowKit Pl
set_option maxHeartbeats 400000
set_option linter.unusedVariables false

def allIn (xs : List Int) (lo hi : Int) : Bool := xs.all fun x => inB x lo hi
def numB (xs : List Int) (n lo hi : Int) : Bool := (xs.length : Int) == n && allIn xs lo hi
def atZ : List (List Sm) → List Int → Bool
  | [], [] => true
  | xs :: L, n :: r => inB n 0 xs.length && atZ L r
  | _, _ => false
theorem atZ_len {L : List (List Sm)} : ∀ {r : List Int}, atZ L r = true → r.length = L.length := by
  induction L with
  | nil => intro r h; cases r <;> simp_all [atZ]
  | cons x L ih => intro r h; cases r with
    | nil => simp [atZ] at h
    | cons n r => simp [atZ] at h; simp [ih h.2]
theorem atZ_ne {L : List (List Sm)} {r : List Int} (h : r.length ≠ L.length) : atZ L r = false := by
  rw [Bool.eq_false_iff]; exact fun e => h (atZ_len e)
theorem allIn_cons (x : Int) (r : List Int) (lo hi : Int) : allIn (x :: r) lo hi = (inB x lo hi && allIn r lo hi) := rfl

theorem prog_len {L : Pg} (h : progB L = true) : 1 ≤ L.length ∧ L.length ≤ 3 := by
  simp only [progB, Bool.and_eq_true, decide_eq_true_eq] at h
  exact h.1
theorem within_b (n lo hi : Int) (w : World) (r : Bool) (hr : Hid (inB n lo hi = r)) : Calls Try.prog 76 #[.int .i64 n, .int .i64 lo, .int .i64 hi] w fun e w' => e = .returned (.bool r) ∧ w = w' := by
  rw [← hr.out]; exact within_any n lo hi w
theorem l1In_b (n lo hi : Int) (w : World) (r : Bool) (hr : Hid (inB n lo hi = r)) : Calls Try.prog 73 #[.int .i64 n, .int .i64 lo, .int .i64 hi] w fun e w' => e = .returned (.bool r) ∧ w = w' := by
  rw [← hr.out]; exact l1In_any n lo hi w

theorem numok_any (A : Option Addr) (xs : List Int) (c : Nat) (n lo hi : Int) (w : World) (B : Nat) (h : Vs w B A (ints xs)) (hm : xs.length ≤ maxLen) (r : Bool) (hr : Hid (numB xs n lo hi = r)) :
    Calls Try.prog 72 #[.slice A xs.length c, .int .i64 n, .int .i64 lo, .int .i64 hi] w fun e w' => e = .returned (.bool r) ∧ w = w' := by
  unfold maxLen at hm
  by_cases hn : (xs.length : Int) = n
  · have hn' : ((xs.length : Int) != n) = false := by simp [hn]
    have hfin : Hid (allIn xs lo hi = r) := Lib.hid (by rw [← hr.out, numB]; simp [hn])
    clear hr hn
    go_enter Try.func72, Try.ntmps72
    go_wp2
    go_loop [17] (fun i => ∃ k : Nat, k ≤ xs.length ∧ i = .int .i64 k ∧ Hid (allIn (xs.drop k) lo hi = r)) (fun i => xs.length - (intOf i).toNat)
    case atStart => exact ⟨0, Nat.zero_le _, rfl, by simpa using hfin⟩
    case round =>
      obtain ⟨k, hk, rfl, hrest⟩ := hrel
      clear hfin hn'
      by_cases hlt : k < xs.length
      · obtain ⟨b, off, x, rfl, hb, hx, hd, hx0⟩ := h.int_ hlt
        have Hd := Lib.hid hd
        clear hd hx
        rcases Bool.eq_false_or_eq_true (inB x lo hi) with he | he
        all_goals
          have He := Lib.hid he
          clear he
          go_wp2_with (go_at_call 76; refine (within_b _ _ _ _ _ He).mono ?_; rintro e w' ⟨rfl, rfl⟩)
        · go_round
          case rel => exact ⟨k + 1, by omega, by go_num, Lib.hid (by
            have := hrest.out
            rw [Hd.out, allIn_cons, He.out] at this
            simpa using this)⟩
          case measure => simp [intOf]; omega
        · go_ret
          refine ⟨?_, rfl⟩
          have := hrest.out
          rw [Hd.out, allIn_cons, He.out] at this
          rw [← this]; rfl
      · have hlast : Hid (r = true) := Lib.hid (by
          have := hrest.out
          rw [List.drop_eq_nil_of_le (by omega)] at this
          rw [← this]; rfl)
        go_wp2
        go_ret
        exact ⟨by rw [hlast.out]; rfl, rfl⟩
  · have hn' : ((xs.length : Int) != n) = true := by simp [hn]
    have hfin : Hid (r = false) := Lib.hid (by rw [← hr.out, numB]; simp [hn])
    clear hr hn
    go_enter Try.func72, Try.ntmps72
    go_wp2
    go_ret
    exact ⟨by rw [hfin.out]; rfl, rfl⟩

theorem all_any (A : Option Addr) (xs : List Int) (c : Nat) (n lo hi : Int) (w : World) (B : Nat) (h : Vs w B A (ints xs)) (hm : xs.length ≤ maxLen) (r : Bool) (hr : Hid (numB xs n lo hi = r)) :
    Calls Try.prog 68 #[.slice A xs.length c, .int .i64 n, .int .i64 lo, .int .i64 hi] w fun e w' => e = .returned (.bool r) ∧ w = w' := by
  unfold maxLen at hm
  have hfin : Hid ((allIn xs lo hi && (xs.length : Int) == n) = r) := Lib.hid (by rw [← hr.out, numB, Bool.and_comm])
  clear hr
  go_enter Try.func68, Try.ntmps68
  go_wp2
  go_loop [9] (fun i => ∃ k : Nat, k ≤ xs.length ∧ i = .int .i64 k ∧ Hid ((allIn (xs.drop k) lo hi && (xs.length : Int) == n) = r)) (fun i => xs.length - (intOf i).toNat)
  case atStart => exact ⟨0, Nat.zero_le _, rfl, by simpa using hfin⟩
  case round =>
    obtain ⟨k, hk, rfl, hrest⟩ := hrel
    clear hfin
    by_cases hlt : k < xs.length
    · obtain ⟨b, off, x, rfl, hb, hx, hd, hx0⟩ := h.int_ hlt
      have Hd := Lib.hid hd
      clear hd hx
      rcases Bool.eq_false_or_eq_true (inB x lo hi) with he | he
      all_goals
        have He := Lib.hid he
        clear he
        go_wp2_with (go_at_call 73; refine (l1In_b _ _ _ _ _ He).mono ?_; rintro e w' ⟨rfl, rfl⟩)
      · go_round
        case rel => exact ⟨k + 1, by omega, by go_num, Lib.hid (by
          have := hrest.out
          rw [Hd.out, allIn_cons, He.out] at this
          simpa using this)⟩
        case measure => simp [intOf]; omega
      · go_ret
        refine ⟨?_, rfl⟩
        have := hrest.out
        rw [Hd.out, allIn_cons, He.out] at this
        rw [← this]; rfl
    · have hlast : Hid (((xs.length : Int) == n) = r) := Lib.hid (by
        have := hrest.out
        rw [List.drop_eq_nil_of_le (by omega)] at this
        rw [← this]; rfl)
      go_wp2
      go_ret
      exact ⟨by rw [← hlast.out]; rfl, rfl⟩

theorem atok_any (h : PgH) (L : Pg) (A : Option Addr) (xs : List Int) (c : Nat) (w : World) (B : Nat) (hP : PgR w B h L) (hV : Vs w B A (ints xs)) (hB : B ≤ w.heap.size) (hm : L.length ≤ maxLen) (hm2 : xs.length ≤ maxLen) (r : Bool) (hr : Hid (atZ L xs = r)) :
    Calls Try.prog 109 #[PgV h L, .slice A xs.length c] w fun e w' => e = .returned (.bool r) ∧ Below w.heap.size w w' := by
  unfold maxLen at hm hm2
  obtain ⟨W, hW⟩ : ∃ W, W = w.alloc (.cells #[.slice h.A L.length h.c] 36) := ⟨_, rfl⟩
  have bW : Below w.heap.size w W := by rw [hW]; go_grown
  have kW : Bk W w.heap.size 36 #[.slice h.A L.length h.c] := by rw [hW]; exact Bk.new _ _ _
  have cW := box_at kW
  have lW := kW.lt
  have P := Lib.hid (hP.below bW hB)
  have V := Lib.hid (hV.below bW hB)
  have BW := Lib.hid bW
  have HW := Lib.hid hW
  clear hW bW kW hP hV
  by_cases hn : xs.length = L.length
  · have hn' : ((xs.length : Int) != (L.length : Int)) = false := by simp [hn]
    have hle : xs.length ≤ L.length := by omega
    have hge : L.length ≤ xs.length := by omega
    clear hn
    go_enter Try.func109, Try.ntmps109
    go_wp2
    rw [← HW.out]
    go_loop [15] (fun i => ∃ k : Nat, k ≤ xs.length ∧ i = .int .i64 k ∧ Hid (atZ (L.drop k) (xs.drop k) = r)) (fun i => xs.length - (intOf i).toNat)
    case atStart => exact ⟨0, Nat.zero_le _, rfl, by simpa using hr⟩
    case round =>
      obtain ⟨k, hk, rfl, hrest⟩ := hrel
      clear hr hn'
      by_cases hlt : k < xs.length
      · obtain ⟨b, off, x, rfl, hb, hx, hd, hx0⟩ := V.out.int_ hlt
        obtain ⟨b2, off2, ys, Ai, ci, hA, hb2, -, hd2, hc2, -, hmy, -⟩ := Rows2.at_ P.out (show k < L.length by omega)
        have Hd := Lib.hid hd
        have Hd2 := Lib.hid hd2
        have hi2 : (k : Int) < (L.length : Int) := by omega
        unfold maxLen at hmy
        rw [hA] at cW
        clear hd hx hd2 hA
        rcases Bool.eq_false_or_eq_true (inB x 0 ys.length) with he | he
        all_goals
          have He := Lib.hid he
          clear he
          go_wp2_with (go_at_call 76; refine (within_b _ _ _ _ _ He).mono ?_; rintro e w' ⟨rfl, rfl⟩)
        · go_round
          case rel => exact ⟨k + 1, by omega, by go_num, Lib.hid (by
            have := hrest.out
            rw [Hd.out, Hd2.out, atZ, He.out] at this
            simpa using this)⟩
          case measure => simp [intOf]; omega
        · go_ret
          refine ⟨?_, BW.out⟩
          have := hrest.out
          rw [Hd.out, Hd2.out, atZ, He.out] at this
          rw [← this]; rfl
      · have hlast : Hid (r = true) := Lib.hid (by
          have := hrest.out
          rw [List.drop_eq_nil_of_le (by omega), List.drop_eq_nil_of_le (by omega)] at this
          rw [← this]; rfl)
        go_wp2
        go_ret
        exact ⟨by rw [hlast.out]; rfl, BW.out⟩
  · have hn' : ((xs.length : Int) != (L.length : Int)) = true := by simp; omega
    have hfin : Hid (r = false) := Lib.hid (by rw [← hr.out]; exact atZ_ne hn)
    clear hr hn
    go_enter Try.func109, Try.ntmps109
    go_wp2
    rw [← HW.out]
    go_ret
    exact ⟨by rw [hfin.out]; rfl, BW.out⟩
end Go.Proofs.Ytnadihepgmbhaaa
