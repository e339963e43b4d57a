/-
  The reference model's order of outcomes: l2Way, l2Bits; outcomes as records of three lists.
-/
import Derived.Test.YtiljakbjbiinkaaVec
namespace Go.Proofs.Ytiljakbjbiinkaa
open Go.RowKit Pl
set_option maxHeartbeats 400000
set_option linter.unusedVariables false

def cmpZ (a b : Int) : Int := if a < b then -1 else if b < a then 1 else 0
def wayL : List Int → List Int → Int
  | [], ys => cmpZ 0 ys.length
  | x :: xs, [] => 1
  | x :: xs, y :: ys => if x < y then -1 else if y < x then 1 else wayL xs ys
def bit (b : Bool) : Int := if b then 1 else 0
def bitL (xs : List Bool) : List Int := xs.map bit
theorem wayL_end {xs ys : List Int} {k : Nat} (h : k = xs.length ∨ k = ys.length) (h1 : k ≤ xs.length) (h2 : k ≤ ys.length) : wayL (xs.drop k) (ys.drop k) = cmpZ xs.length ys.length := by
  have e1 : (xs.drop k).length = xs.length - k := List.length_drop
  have e2 : (ys.drop k).length = ys.length - k := List.length_drop
  generalize xs.drop k = a at *
  generalize ys.drop k = b at *
  cases a with
  | nil =>
    simp at e1
    simp only [wayL, cmpZ, e2]
    split <;> split <;> (try split) <;> omega
  | cons x a =>
    cases b with
    | nil =>
      simp at e1 e2
      simp only [wayL, cmpZ]
      split <;> (try split) <;> omega
    | cons y b => simp at e1 e2; omega
theorem wayL_ne {x y : Int} (xs ys : List Int) (h : x ≠ y) : wayL (x :: xs) (y :: ys) = cmpZ x y := by
  simp only [wayL, cmpZ]
  split
  · rfl
  · split
    · rfl
    · omega
theorem wayL_eq (x : Int) (xs ys : List Int) : wayL (x :: xs) (x :: ys) = wayL xs ys := by
  simp [wayL]
theorem bitL_length (xs : List Bool) : (bitL xs).length = xs.length := by simp [bitL]
theorem bitL_drop (xs : List Bool) (k : Nat) : (bitL xs).drop k = bitL (xs.drop k) := by simp [bitL, List.map_drop]

theorem figure_any (b : Bool) (w : World) : Calls Try.prog 127 #[.bool b] w fun e w' => e = .returned (.int .i64 (bit b)) ∧ w' = w := by
  cases b
  all_goals
    go_enter Try.func127, Try.ntmps127
    go_wp2
    go_ret
    exact ⟨rfl, rfl⟩

theorem bit_ne {x y : Bool} (h : x ≠ y) : bit x ≠ bit y := by cases x <;> cases y <;> simp_all [bit]
end Go.Proofs.Ytiljakbjbiinkaa
namespace Go.Proofs.Ytiljakbjbiinkaa
open Go.RowKit Pl
set_option maxHeartbeats 400000
set_option linter.unusedVariables false

theorem sway_any (A1 A2 : Option Addr) (xs ys : List Int) (c1 c2 : Nat) (w : World) (B : Nat) (h1 : Vs w B A1 (ints xs)) (h2 : Vs w B A2 (ints ys)) (hm1 : xs.length ≤ maxLen) (hm2 : ys.length ≤ maxLen) (r : Int) (hr : Hid (wayL xs ys = r)) :
    Calls Try.prog 188 #[.slice A1 xs.length c1, .slice A2 ys.length c2] w fun e w' => e = .returned (.int .i64 r) ∧ Below w.heap.size w w' := by
  unfold maxLen at hm1 hm2
  go_enter Try.func188, Try.ntmps188
  go_wp2
  go_loopw [5] (fun i wr => ∃ k : Nat, k ≤ xs.length ∧ k ≤ ys.length ∧ i = .int .i64 k ∧ Below w.heap.size w wr ∧ (∀ b o, wr.cell? ⟨b, o, none⟩ = w.cell? ⟨b, o, none⟩) ∧ Hid (wayL (xs.drop k) (ys.drop k) = r)) (fun i _ => xs.length - (intOf i).toNat)
  case atStart => exact ⟨0, Nat.zero_le _, Nat.zero_le _, rfl, Below.refl _ _, fun _ _ => rfl, by simpa using hr⟩
  case round =>
    obtain ⟨k, hk, hk2, rfl, hbel, hsame, hrest⟩ := hrel
    clear hr
    by_cases hlt : k < xs.length
    · by_cases hlt2 : k < ys.length
      · obtain ⟨b1, off1, x, rfl, hb1, -, hd1, hx0⟩ := (h1.keep (Nat.le_refl _) (fun b o _ => hsame b o)).int_ hlt
        obtain ⟨b2, off2, y, rfl, hb2, -, hd2, hy0⟩ := (h2.keep (Nat.le_refl _) (fun b o _ => hsame b o)).int_ hlt2
        have hi1 : (k : Int) < (xs.length : Int) := by omega
        have hi2 : (k : Int) < (ys.length : Int) := by omega
        have Hsame := Lib.hid hsame
        have hr2 := hrest.out
        rw [hd1, hd2] at hr2
        clear hd1 hd2 hsame h1 h2 hrest
        by_cases hxy : x < y
        · have hres : Hid (r = -1) := Lib.hid (by rw [← hr2, wayL, if_pos hxy])
          clear hr2
          go_wp2
          go_quiet (fail)
          go_wp2
          go_ret
          exact ⟨by rw [hres.out]; rfl, below_drewN hbel _⟩
        · by_cases hyx : y < x
          · have hres : Hid (r = 1) := Lib.hid (by rw [← hr2, wayL, if_neg hxy, if_pos hyx])
            clear hr2
            go_wp2
            go_quiet (fail)
            go_wp2
            go_quiet (fail)
            go_wp2
            go_ret
            exact ⟨by rw [hres.out]; rfl, (by first | exact below_drewN hbel _ | exact below_drewN (below_drewN hbel _) _)⟩
          · have hres : Hid (wayL (xs.drop (k + 1)) (ys.drop (k + 1)) = r) := Lib.hid (by rw [← hr2, wayL, if_neg hxy, if_neg hyx])
            clear hr2
            go_wp2
            go_quiet (fail)
            go_wp2
            go_quiet (fail)
            go_wp2
            go_roundw
            case rel => exact ⟨k + 1, by omega, by omega, by go_num, (by first | exact below_drewN hbel _ | exact below_drewN (below_drewN hbel _) _), fun b o => Hsame.out b o, hres⟩
            case measure => simp [intOf]; omega
      · have hkm : k = ys.length := by omega
        subst hkm
        have hlast : Hid (r = 1) := Lib.hid (by
          have := hrest.out
          rw [wayL_end (Or.inr rfl) hk (Nat.le_refl _), cmpZ, if_neg (by omega), if_pos (by omega)] at this; exact this.symm)
        clear hrest
        go_wp2
        go_ret
        exact ⟨by rw [hlast.out]; rfl, hbel⟩
    · have hkm : k = xs.length := by omega
      subst hkm
      have hlast : Hid (cmpZ xs.length ys.length = r) := Lib.hid (by
        have := hrest.out
        rw [wayL_end (Or.inl rfl) (Nat.le_refl _) hk2] at this; exact this)
      clear hrest
      by_cases hll : xs.length < ys.length
      · have hres : Hid (r = -1) := Lib.hid (by rw [← hlast.out, cmpZ, if_pos (by omega)])
        go_wp2
        go_ret
        exact ⟨by rw [hres.out]; rfl, hbel⟩
      · have hres : Hid (r = 0) := Lib.hid (by rw [← hlast.out, cmpZ, if_neg (by omega), if_neg (by omega)])
        go_wp2
        go_ret
        exact ⟨by rw [hres.out]; rfl, hbel⟩

theorem bitL_snoc {xs : List Bool} {k : Nat} {x : Bool} (h : xs[k]? = some x) : ints (bitL (xs.take (k + 1))) = ints (bitL (xs.take k)) ++ [.int .i64 (bit x)] := by
  rw [List.take_add_one, h]
  simp [ints, bitL]
/-- A row of numbers in memory of the call's own. -/
def MadeI (w : World) (zs : List Int) (e : Ending) (w' : World) : Prop :=
  ∃ g cap, e = .returned (.slice (some ⟨g, 0, none⟩) zs.length cap) ∧ zs.length ≤ cap ∧ cap ≤ maxLen ∧ w.heap.size ≤ g ∧ Below w.heap.size w w' ∧ OwnVs w' w.heap.size w'.heap.size 3 (some ⟨g, 0, none⟩) (ints zs)
theorem own_cap {w : World} {base g n cap : Nat} {t : TypeId} {vs : List Value} (h : w.ownsRow base t 1 (.slice (some ⟨g, 0, none⟩) n cap) n vs) : n ≤ cap ∧ cap ≤ maxLen := by
  rcases h.2 with ⟨h0, _⟩ | ⟨g', cap', cur, hv, _, _, h1, h2, _⟩
  · simp at h0
  · injection hv with _ _ hc
    subst hc
    exact ⟨h1, h2⟩
theorem bits_any (A : Option Addr) (xs : List Bool) (c : Nat) (w : World) (B : Nat) (h : Vs w B A (bools xs)) (hB : B ≤ w.heap.size) (hm : xs.length ≤ 1048576) :
    Calls Try.prog 189 #[.slice A xs.length c] w (MadeI w (bitL xs)) := by
  obtain ⟨i0, hi, iz0, iz1, iz2⟩ := info_parts Try.info3
  have start : Hid ((w.alloc (.cells #[] 3)).ownsRow w.heap.size 3 1 (.slice (some ⟨w.heap.size, 0, none⟩) 0 0) 0 (ints (bitL (xs.take 0)))) := Lib.hid (World.ownsRow_made w #[] 0 (Nat.le_refl _) (by decide) (by simp))
  go_enter Try.func189, Try.ntmps189
  go_wp2
  go_loopw [3, 4] (fun v i wr => ∃ k g cap : Nat, k ≤ xs.length ∧ i = .int .i64 k ∧ v = .slice (some ⟨g, 0, none⟩) k cap ∧ w.heap.size ≤ g ∧ wr.ownsRow w.heap.size 3 1 (.slice (some ⟨g, 0, none⟩) k cap) k (ints (bitL (xs.take k))) ∧ Below w.heap.size w wr) (fun _ i _ => xs.length - (intOf i).toNat)
  case atStart => exact ⟨0, _, 0, Nat.zero_le _, rfl, rfl, Nat.le_refl _, start.out, (Below.refl _ _).alloc (Nat.le_refl _) _⟩
  case round =>
    obtain ⟨k, g, cap, hk, rfl, rfl, hgg, hown, hbel⟩ := hrel
    clear start
    have hz := hbel.size
    by_cases hlt : k < xs.length
    · obtain ⟨b, off, x, rfl, hb, hx, -, hx0⟩ := (h.below hbel hB).bool_ hlt
      have Hx := Lib.hid (bitL_snoc hx)
      have Hown := Lib.hid hown
      have Hb := Lib.hid hbel
      have hbw : b < wr.heap.size := by omega
      clear hx hown hbel
      cases x
      all_goals
        go_wp2_with (at_builtin; refine wpList_append_own _ rfl (.tmp 17) (.tmp 19) 39 rfl w.heap.size 3 i0 _ 1 8 Try.underlying39 hi iz0 iz1 iz2 rfl (by decide) _ k _ rfl (Hown.out.alloc _) ⟨_, 0, none⟩ 1 1 [.int .i64 _] rfl rfl (cell1_new _ _ _) (by intro u hu; simp at hu; subst hu; rfl) (by unfold maxLen; omega) (by omega) (by simp; omega) ?_; intro v' w3 own3 grow3 _; obtain ⟨g3, cap3, rfl, hg3, hlt3⟩ := own3.form (by omega); have Own3 := Lib.hid own3; have B3 := Lib.hid ((Hb.out.alloc hz _).grown grow3 (by simp; omega) (by intro q hq; cases hq; exact hgg)); clear own3 grow3)
        go_roundw
        case rel => exact ⟨k + 1, g3, cap3, by omega, by go_num, rfl, hg3, by rw [Hx.out]; exact Own3.out, B3.out⟩
        case measure => simp [intOf]; omega
    · have hkl : k = xs.length := by omega
      subst hkl
      rw [List.take_length] at hown
      have Hown := Lib.hid hown
      clear hown
      go_wp2
      go_ret
      obtain ⟨h1, h2⟩ := own_cap Hown.out
      exact ⟨g, cap, by rw [bitL_length]; rfl, by rw [bitL_length]; exact h1, h2, hgg, hbel, own_vs Hown.out rfl⟩
end Go.Proofs.Ytiljakbjbiinkaa
