/-
  What ClockJoin comes to, of the program and of the reference model.
-/
import Derived.Test.YtidibnmlceccnaaOrdS
import Derived.Test.YtidibnmlceccnaaIl
import Derived.BigRegion
namespace Go.Proofs.Ytidibnmlceccnaa
open Go.RowKit Pl
set_option maxHeartbeats 2000000
set_option maxRecDepth 100000
set_option linter.unusedVariables false

def maxI (x y : Int) : Int := if x < y then y else x
def joinL (xs ys : List Int) : List Int := List.zipWith maxI xs ys
theorem joinL_length {xs ys : List Int} (h : xs.length = ys.length) : (joinL xs ys).length = xs.length := by unfold joinL; rw [List.length_zipWith]; omega
theorem joinL_at {xs ys : List Int} {k : Nat} {x y : Int} (hx : xs[k]? = some x) (hy : ys[k]? = some y) : (joinL xs ys)[k]? = some (maxI x y) := by
  unfold joinL; rw [List.getElem?_zipWith, hx, hy]
theorem joinL_snoc {xs ys : List Int} {k : Nat} {x y : Int} (hx : xs[k]? = some x) (hy : ys[k]? = some y) : ints ((joinL xs ys).take (k + 1)) = ints ((joinL xs ys).take k) ++ [.int .i64 (maxI x y)] := by
  rw [List.take_add_one, joinL_at hx hy]
  simp [ints]
def joiE (xs ys : List Int) : List Int := if xs.length = ys.length then joinL xs ys else []
def joiR (xs ys : List Int) : Bool := xs.length == ys.length
theorem joiE_small {xs ys : List Int} (h : IsS xs) (_ : IsS ys) : IlS (joiE xs ys) := by
  have h0 := h.l0
  unfold joiE
  split
  · rename_i e; exact ⟨by rw [joinL_length e]; exact h0⟩
  · exact ⟨by simp⟩
theorem CopyV.drew {w wr : World} {t : TypeId} {vs : List Value} {k : Nat} (h : CopyV w wr t vs k) : CopyV w wr.drew t vs k := by
  obtain ⟨h0, cs, hbk, h1⟩ := h
  exact ⟨h0.trans ⟨rfl, rfl, rfl, Nat.le_refl _, fun _ _ => rfl⟩, cs, hbk, h1⟩

theorem ijoin_any (k1 : IsH) (xs : List Int) (k2 : IsH) (ys : List Int) (w : World) (B : Nat) (h1 : IsR w B k1 xs) (h2 : IsR w B k2 ys) (hB : B ≤ w.heap.size) (S1 : IsS xs) (S2 : IsS ys) :
    Calls Try.prog 53 #[IsV k1 xs, IsV k2 ys] w (AnsIl w (joiE xs ys) (joiR xs ys)) := by
  obtain ⟨A1, c1⟩ := k1
  obtain ⟨A2, c2⟩ := k2
  show Calls Try.prog 53 #[.slice A1 xs.length c1, .slice A2 ys.length c2] w _
  obtain ⟨h1⟩ := h1
  obtain ⟨h2⟩ := h2
  have h1 : Vs w B A1 (ints xs) := h1
  have h2 : Vs w B A2 (ints ys) := h2
  have hm1 := S1.l0
  have hm2 := S2.l0
  clear S1 S2
  by_cases hlen : xs.length = ys.length
  · have hne : ((xs.length : Int) != (ys.length : Int)) = false := by simp; omega
    have eE : joiE xs ys = joinL xs ys := if_pos hlen
    have eR : joiR xs ys = true := by simp [joiR, hlen]
    rw [eE, eR]
    have hZl := joinL_length hlen
    have HZ := Lib.hid (fun k x y hx hy => joinL_at (xs := xs) (ys := ys) (k := k) (x := x) (y := y) hx hy)
    generalize joinL xs ys = Z at *
    clear eE eR
    obtain ⟨i0, hi, hz0, hz1, hz2⟩ := info_parts Try.info3
    have hmk := make_any Try.underlying25 hi hz0 xs.length (by rw [hz2]; omega) (by omega)
    rw [hz1, Nat.mul_one] at hmk
    have start := Lib.hid (show CopyV w (w.alloc (.cells (madeCells #[.int .i64 0] xs.length) 3)) 3 (ints Z) 0 from
      ⟨(Below.refl _ _).alloc (Nat.le_refl _) _, _, Bk.new _ _ _, by simp [size_madeCells, hZl], fun j x hj => absurd hj (by omega)⟩)
    have hle1 := Nat.le_of_eq hlen
    have hle2 := Nat.le_of_eq hlen.symm
    clear hz0 hz1 hz2 hi hlen
    go_enter Try.func53, Try.ntmps53
    go_wp2
    go_loopw [18] (fun i wr => ∃ k : Nat, k ≤ xs.length ∧ i = .int .i64 k ∧ CopyV w wr 3 (ints Z) k) (fun i _ => xs.length - (intOf i).toNat)
    case atStart => exact ⟨0, Nat.zero_le _, rfl, start.out⟩
    case round =>
      obtain ⟨k, hk, rfl, hcp⟩ := hrel
      clear start hmk
      by_cases hlt : k < xs.length
      · obtain ⟨hbel, cs, hbk, hsz, -⟩ := id hcp
        rw [ints_length, hZl] at hsz
        obtain ⟨b1, off1, x, rfl, hb1, hx, -, hx0⟩ := (h1.below hbel hB).int_ hlt
        obtain ⟨b2, off2, y, rfl, hb2, hy, -, hy0⟩ := (h2.below hbel hB).int_ (show k < ys.length by omega)
        have Hx := Lib.hid (ints_at (HZ.out k x y hx hy))
        have hg := hbk.lt
        have hz := hbel.size
        have hbw1 : b1 < wr.heap.size := by omega
        have hbw2 : b2 < wr.heap.size := by omega
        have hi1 : (k : Int) < (xs.length : Int) := by omega
        have hi2 : (k : Int) < (ys.length : Int) := by omega
        obtain ⟨v0, e0⟩ := hbk.some_ (i := k) (by omega)
        have q0 := hbk.free k
        clear hbk hsz h1 h2 hx hy hbel
        have Hcp := Lib.hid hcp
        clear hcp
        by_cases hxy : x < y
        · have hM : maxI x y = y := if_pos hxy
          rw [hM] at Hx
          clear hM
          go_wp2_with fail
          go_region
          go_wp2
          go_roundw
          case rel => exact ⟨k + 1, by omega, by go_num, (Hcp.out.next Hx.out).drew⟩
          case measure => simp [intOf]; omega
        · have hM : maxI x y = x := if_neg hxy
          rw [hM] at Hx
          clear hM
          go_wp2_with fail
          go_region
          go_wp2
          go_roundw
          case rel => exact ⟨k + 1, by omega, by go_num, (Hcp.out.next Hx.out).drew⟩
          case measure => simp [intOf]; omega
      · have hkn : k = xs.length := by omega
        subst hkn
        have Hcp := Lib.hid hcp
        clear hcp
        go_wp2
        go_returns
        have hc' : CopyV w wr 3 (ints Z) (ints Z).length := by rw [ints_length, hZl]; exact Hcp.out
        exact ⟨⟨some ⟨w.heap.size, 0, none⟩, xs.length⟩, by show _ = Ending.returned (.tuple #[.slice _ Z.length xs.length, _]); rw [hZl]; rfl, hc'.1, hc'.1.size, ⟨hc'.done.keep (Nat.le_refl _) hc'.lt fun i _ _ => rfl⟩⟩
  · have hne : ((xs.length : Int) != (ys.length : Int)) = true := by simp; omega
    have eE : joiE xs ys = [] := if_neg hlen
    have eR : joiR xs ys = false := by simp [joiR, hlen]
    rw [eE, eR]
    go_enter Try.func53, Try.ntmps53
    go_wp2
    go_returns
    exact ⟨⟨none, 0⟩, rfl, Below.refl _ _, Nat.le_refl _, ⟨OwnVs.nil _ _ _ _ _⟩⟩
theorem sjoin0_any (A1 A2 : Option Addr) (c1 c2 : Nat) (xs ys : List Int) (w : World) (B : Nat) (h1 : Vs w B A1 (ints xs)) (h2 : Vs w B A2 (ints ys)) (hB : B ≤ w.heap.size) (hlen : xs.length = ys.length) (hm : xs.length ≤ 1048576) :
    Calls Try.prog 98 #[.slice A1 xs.length c1, .slice A2 ys.length c2] w (MadeI w (joinL xs ys)) := by
  obtain ⟨i0, hi, iz0, iz1, iz2⟩ := info_parts Try.info3
  have start : Hid ((w.alloc (.cells #[] 3)).ownsRow w.heap.size 3 1 (.slice (some ⟨w.heap.size, 0, none⟩) 0 0) 0 (ints ((joinL xs ys).take 0))) := Lib.hid (World.ownsRow_made w #[] 0 (Nat.le_refl _) (by decide) (by simp))
  have hZl := joinL_length hlen
  have hle1 := Nat.le_of_eq hlen
  have hle2 := Nat.le_of_eq hlen.symm
  clear hlen
  go_enter Try.func98, Try.ntmps98
  go_wp2
  go_loopw [5, 6] (fun v i wr => ∃ k g cap : Nat, k ≤ xs.length ∧ i = .int .i64 k ∧ v = .slice (some ⟨g, 0, none⟩) k cap ∧ w.heap.size ≤ g ∧ wr.ownsRow w.heap.size 3 1 (.slice (some ⟨g, 0, none⟩) k cap) k (ints ((joinL xs ys).take k)) ∧ Below w.heap.size w wr) (fun _ i _ => xs.length - (intOf i).toNat)
  case atStart => exact ⟨0, _, 0, Nat.zero_le _, rfl, rfl, Nat.le_refl _, start.out, (Below.refl _ _).alloc (Nat.le_refl _) _⟩
  case round =>
    obtain ⟨k, g, cap, hk, rfl, rfl, hgg, hown, hbel⟩ := hrel
    clear start
    have hz := hbel.size
    by_cases hlt : k < xs.length
    · obtain ⟨b1, off1, x, rfl, hb1, hx, -, hx0⟩ := (h1.below hbel hB).int_ hlt
      obtain ⟨b2, off2, y, rfl, hb2, hy, -, hy0⟩ := (h2.below hbel hB).int_ (show k < ys.length by omega)
      have Hx := Lib.hid (joinL_snoc hx hy)
      have hi2 : (k : Int) < (ys.length : Int) := by omega
      have Hown := Lib.hid hown
      have Hb := Lib.hid hbel
      have hbw1 : b1 < wr.heap.size := by omega
      have hbw2 : b2 < wr.heap.size := by omega
      clear hx hy hown hbel
      by_cases hxy : x < y
      · have hM : maxI x y = y := if_pos hxy
        rw [hM] at Hx
        clear hM
        go_wp2_with (at_builtin; refine wpList_append_own _ rfl (.tmp 29) (.tmp 31) 25 rfl w.heap.size 3 i0 _ 1 8 Try.underlying25 hi iz0 iz1 iz2 rfl (by decide) _ k _ rfl (Hown.out.alloc _) ⟨_, 0, none⟩ 1 1 [.int .i64 _] rfl rfl (cell1_new _ _ _) (by intro u hu; simp at hu; subst hu; rfl) (by unfold maxLen; omega) (by omega) (by simp; omega) ?_; intro v' w3 own3 grow3 _; obtain ⟨g3, cap3, rfl, hg3, hlt3⟩ := own3.form (by omega); have Own3 := Lib.hid own3; have B3 := Lib.hid ((Hb.out.alloc hz _).grown grow3 (by simp; omega) (by intro q hq; cases hq; exact hgg)); clear own3 grow3)
        go_roundw
        case rel => exact ⟨k + 1, g3, cap3, by omega, by go_num, rfl, hg3, by rw [Hx.out]; exact Own3.out, B3.out⟩
        case measure => simp [intOf]; omega
      · have hM : maxI x y = x := if_neg hxy
        rw [hM] at Hx
        clear hM
        go_wp2_with (at_builtin; refine wpList_append_own _ rfl (.tmp 29) (.tmp 31) 25 rfl w.heap.size 3 i0 _ 1 8 Try.underlying25 hi iz0 iz1 iz2 rfl (by decide) _ k _ rfl (Hown.out.alloc _) ⟨_, 0, none⟩ 1 1 [.int .i64 _] rfl rfl (cell1_new _ _ _) (by intro u hu; simp at hu; subst hu; rfl) (by unfold maxLen; omega) (by omega) (by simp; omega) ?_; intro v' w3 own3 grow3 _; obtain ⟨g3, cap3, rfl, hg3, hlt3⟩ := own3.form (by omega); have Own3 := Lib.hid own3; have B3 := Lib.hid ((Hb.out.alloc hz _).grown grow3 (by simp; omega) (by intro q hq; cases hq; exact hgg)); clear own3 grow3)
        go_roundw
        case rel => exact ⟨k + 1, g3, cap3, by omega, by go_num, rfl, hg3, by rw [Hx.out]; exact Own3.out, B3.out⟩
        case measure => simp [intOf]; omega
    · have hkl : k = (joinL xs ys).length := by omega
      subst hkl
      rw [List.take_length] at hown
      have Hown := Lib.hid hown
      clear hown
      go_wp2
      go_ret
      obtain ⟨q1, q2⟩ := own_cap Hown.out
      exact ⟨g, cap, rfl, q1, q2, hgg, hbel, own_vs Hown.out rfl⟩
theorem sjoin_any (k1 : IsH) (xs : List Int) (k2 : IsH) (ys : List Int) (w : World) (B : Nat) (h1 : IsR w B k1 xs) (h2 : IsR w B k2 ys) (hB : B ≤ w.heap.size) (S1 : IsS xs) (S2 : IsS ys) :
    Calls Try.prog 52 #[IsV k1 xs, IsV k2 ys] w (AnsIl w (joiE xs ys) (joiR xs ys)) := by
  obtain ⟨A1, c1⟩ := k1
  obtain ⟨A2, c2⟩ := k2
  show Calls Try.prog 52 #[.slice A1 xs.length c1, .slice A2 ys.length c2] w _
  obtain ⟨h1⟩ := h1
  obtain ⟨h2⟩ := h2
  have h1 : Vs w B A1 (ints xs) := h1
  have h2 : Vs w B A2 (ints ys) := h2
  have hm1 := S1.l0
  have hm2 := S2.l0
  clear S1 S2
  by_cases hlen : xs.length = ys.length
  · have hne : ((xs.length : Int) != (ys.length : Int)) = false := by simp; omega
    have eE : joiE xs ys = joinL xs ys := if_pos hlen
    have eR : joiR xs ys = true := by simp [joiR, hlen]
    rw [eE, eR]
    have hs := Lib.hid (sjoin0_any A1 A2 c1 c2 xs ys w B h1 h2 hB hlen hm1)
    generalize joinL xs ys = Z at *
    have hle1 := Nat.le_of_eq hlen
    have hle2 := Nat.le_of_eq hlen.symm
    clear eE eR hlen
    go_enter Try.func52, Try.ntmps52
    go_wp2_with fail
    refine hs.out.mono ?_
    rintro e w1 ⟨g, cap, rfl, -, -, -, hb1, ho⟩
    go_wp2
    go_returns
    exact ⟨⟨_, cap⟩, rfl, hb1, hb1.size, ⟨ho⟩⟩
  · have hne : ((xs.length : Int) != (ys.length : Int)) = true := by simp; omega
    have eE : joiE xs ys = [] := if_neg hlen
    have eR : joiR xs ys = false := by simp [joiR, hlen]
    rw [eE, eR]
    go_enter Try.func52, Try.ntmps52
    go_wp2
    go_returns
    exact ⟨⟨none, 0⟩, rfl, Below.refl _ _, Nat.le_refl _, ⟨OwnVs.nil _ _ _ _ _⟩⟩
end Go.Proofs.Ytidibnmlceccnaa
