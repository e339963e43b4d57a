/-
  The reference model's walk over clocks in memory: its box, its tables, and what a new row in a table comes to.
-/
import Derived.Test.YtidibnmlceccnaaOrdS
import Derived.Test.YtidibnmlceccnaaIl
import Derived.BigRegion
import Derived.Test.YtidibnmlceccnaaSZer
namespace Go.Proofs.Ytidibnmlceccnaa
open Go.RowKit Pl
set_option maxHeartbeats 2000000
set_option maxRecDepth 100000
set_option linter.unusedVariables false

def maxI (x y : Int) : Int := if x < y then y else x
def joinL (xs ys : List Int) : List Int := List.zipWith maxI xs ys
theorem joinL_length {xs ys : List Int} (h : xs.length = ys.length) : (joinL xs ys).length = xs.length := by unfold joinL; rw [List.length_zipWith]; omega
theorem joinL_at {xs ys : List Int} {k : Nat} {x y : Int} (hx : xs[k]? = some x) (hy : ys[k]? = some y) : (joinL xs ys)[k]? = some (maxI x y) := by
  unfold joinL; rw [List.getElem?_zipWith, hx, hy]
theorem joinL_snoc {xs ys : List Int} {k : Nat} {x y : Int} (hx : xs[k]? = some x) (hy : ys[k]? = some y) : ints ((joinL xs ys).take (k + 1)) = ints ((joinL xs ys).take k) ++ [.int .i64 (maxI x y)] := by
  rw [List.take_add_one, joinL_at hx hy]
  simp [ints]
def joiE (xs ys : List Int) : List Int := if xs.length = ys.length then joinL xs ys else []
def joiR (xs ys : List Int) : Bool := xs.length == ys.length
theorem joiE_small {xs ys : List Int} (h : IsS xs) (_ : IsS ys) : IlS (joiE xs ys) := by
  have h0 := h.l0
  unfold joiE
  split
  · rename_i e; exact ⟨by rw [joinL_length e]; exact h0⟩
  · exact ⟨by simp⟩
theorem CopyV.drew {w wr : World} {t : TypeId} {vs : List Value} {k : Nat} (h : CopyV w wr t vs k) : CopyV w wr.drew t vs k := by
  obtain ⟨h0, cs, hbk, h1⟩ := h
  exact ⟨h0.trans ⟨rfl, rfl, rfl, Nat.le_refl _, fun _ _ => rfl⟩, cs, hbk, h1⟩

theorem ijoin_any (k1 : IsH) (xs : List Int) (k2 : IsH) (ys : List Int) (w : World) (B : Nat) (h1 : IsR w B k1 xs) (h2 : IsR w B k2 ys) (hB : B ≤ w.heap.size) (S1 : IsS xs) (S2 : IsS ys) :
    Calls Try.prog 53 #[IsV k1 xs, IsV k2 ys] w (AnsIl w (joiE xs ys) (joiR xs ys)) := by
  obtain ⟨A1, c1⟩ := k1
  obtain ⟨A2, c2⟩ := k2
  show Calls Try.prog 53 #[.slice A1 xs.length c1, .slice A2 ys.length c2] w _
  obtain ⟨h1⟩ := h1
  obtain ⟨h2⟩ := h2
  have h1 : Vs w B A1 (ints xs) := h1
  have h2 : Vs w B A2 (ints ys) := h2
  have hm1 := S1.l0
  have hm2 := S2.l0
  clear S1 S2
  by_cases hlen : xs.length = ys.length
  · have hne : ((xs.length : Int) != (ys.length : Int)) = false := by simp; omega
    have eE : joiE xs ys = joinL xs ys := if_pos hlen
    have eR : joiR xs ys = true := by simp [joiR, hlen]
    rw [eE, eR]
    have hZl := joinL_length hlen
    have HZ := Lib.hid (fun k x y hx hy => joinL_at (xs := xs) (ys := ys) (k := k) (x := x) (y := y) hx hy)
    generalize joinL xs ys = Z at *
    clear eE eR
    obtain ⟨i0, hi, hz0, hz1, hz2⟩ := info_parts Try.info3
    have hmk := make_any Try.underlying25 hi hz0 xs.length (by rw [hz2]; omega) (by omega)
    rw [hz1, Nat.mul_one] at hmk
    have start := Lib.hid (show CopyV w (w.alloc (.cells (madeCells #[.int .i64 0] xs.length) 3)) 3 (ints Z) 0 from
      ⟨(Below.refl _ _).alloc (Nat.le_refl _) _, _, Bk.new _ _ _, by simp [size_madeCells, hZl], fun j x hj => absurd hj (by omega)⟩)
    have hle1 := Nat.le_of_eq hlen
    have hle2 := Nat.le_of_eq hlen.symm
    clear hz0 hz1 hz2 hi hlen
    go_enter Try.func53, Try.ntmps53
    go_wp2
    go_loopw [18] (fun i wr => ∃ k : Nat, k ≤ xs.length ∧ i = .int .i64 k ∧ CopyV w wr 3 (ints Z) k) (fun i _ => xs.length - (intOf i).toNat)
    case atStart => exact ⟨0, Nat.zero_le _, rfl, start.out⟩
    case round =>
      obtain ⟨k, hk, rfl, hcp⟩ := hrel
      clear start hmk
      by_cases hlt : k < xs.length
      · obtain ⟨hbel, cs, hbk, hsz, -⟩ := id hcp
        rw [ints_length, hZl] at hsz
        obtain ⟨b1, off1, x, rfl, hb1, hx, -, hx0⟩ := (h1.below hbel hB).int_ hlt
        obtain ⟨b2, off2, y, rfl, hb2, hy, -, hy0⟩ := (h2.below hbel hB).int_ (show k < ys.length by omega)
        have Hx := Lib.hid (ints_at (HZ.out k x y hx hy))
        have hg := hbk.lt
        have hz := hbel.size
        have hbw1 : b1 < wr.heap.size := by omega
        have hbw2 : b2 < wr.heap.size := by omega
        have hi1 : (k : Int) < (xs.length : Int) := by omega
        have hi2 : (k : Int) < (ys.length : Int) := by omega
        obtain ⟨v0, e0⟩ := hbk.some_ (i := k) (by omega)
        have q0 := hbk.free k
        clear hbk hsz h1 h2 hx hy hbel
        have Hcp := Lib.hid hcp
        clear hcp
        by_cases hxy : x < y
        · have hM : maxI x y = y := if_pos hxy
          rw [hM] at Hx
          clear hM
          go_wp2_with fail
          go_region
          go_wp2
          go_roundw
          case rel => exact ⟨k + 1, by omega, by go_num, (Hcp.out.next Hx.out).drew⟩
          case measure => simp [intOf]; omega
        · have hM : maxI x y = x := if_neg hxy
          rw [hM] at Hx
          clear hM
          go_wp2_with fail
          go_region
          go_wp2
          go_roundw
          case rel => exact ⟨k + 1, by omega, by go_num, (Hcp.out.next Hx.out).drew⟩
          case measure => simp [intOf]; omega
      · have hkn : k = xs.length := by omega
        subst hkn
        have Hcp := Lib.hid hcp
        clear hcp
        go_wp2
        go_returns
        have hc' : CopyV w wr 3 (ints Z) (ints Z).length := by rw [ints_length, hZl]; exact Hcp.out
        exact ⟨⟨some ⟨w.heap.size, 0, none⟩, xs.length⟩, by show _ = Ending.returned (.tuple #[.slice _ Z.length xs.length, _]); rw [hZl]; rfl, hc'.1, hc'.1.size, ⟨hc'.done.keep (Nat.le_refl _) hc'.lt fun i _ _ => rfl⟩⟩
  · have hne : ((xs.length : Int) != (ys.length : Int)) = true := by simp; omega
    have eE : joiE xs ys = [] := if_neg hlen
    have eR : joiR xs ys = false := by simp [joiR, hlen]
    rw [eE, eR]
    go_enter Try.func53, Try.ntmps53
    go_wp2
    go_returns
    exact ⟨⟨none, 0⟩, rfl, Below.refl _ _, Nat.le_refl _, ⟨OwnVs.nil _ _ _ _ _⟩⟩
theorem sjoin0_any (A1 A2 : Option Addr) (c1 c2 : Nat) (xs ys : List Int) (w : World) (B : Nat) (h1 : Vs w B A1 (ints xs)) (h2 : Vs w B A2 (ints ys)) (hB : B ≤ w.heap.size) (hlen : xs.length = ys.length) (hm : xs.length ≤ 1048576) :
    Calls Try.prog 98 #[.slice A1 xs.length c1, .slice A2 ys.length c2] w (MadeI w (joinL xs ys)) := by
  obtain ⟨i0, hi, iz0, iz1, iz2⟩ := info_parts Try.info3
  have start : Hid ((w.alloc (.cells #[] 3)).ownsRow w.heap.size 3 1 (.slice (some ⟨w.heap.size, 0, none⟩) 0 0) 0 (ints ((joinL xs ys).take 0))) := Lib.hid (World.ownsRow_made w #[] 0 (Nat.le_refl _) (by decide) (by simp))
  have hZl := joinL_length hlen
  have hle1 := Nat.le_of_eq hlen
  have hle2 := Nat.le_of_eq hlen.symm
  clear hlen
  go_enter Try.func98, Try.ntmps98
  go_wp2
  go_loopw [5, 6] (fun v i wr => ∃ k g cap : Nat, k ≤ xs.length ∧ i = .int .i64 k ∧ v = .slice (some ⟨g, 0, none⟩) k cap ∧ w.heap.size ≤ g ∧ wr.ownsRow w.heap.size 3 1 (.slice (some ⟨g, 0, none⟩) k cap) k (ints ((joinL xs ys).take k)) ∧ Below w.heap.size w wr) (fun _ i _ => xs.length - (intOf i).toNat)
  case atStart => exact ⟨0, _, 0, Nat.zero_le _, rfl, rfl, Nat.le_refl _, start.out, (Below.refl _ _).alloc (Nat.le_refl _) _⟩
  case round =>
    obtain ⟨k, g, cap, hk, rfl, rfl, hgg, hown, hbel⟩ := hrel
    clear start
    have hz := hbel.size
    by_cases hlt : k < xs.length
    · obtain ⟨b1, off1, x, rfl, hb1, hx, -, hx0⟩ := (h1.below hbel hB).int_ hlt
      obtain ⟨b2, off2, y, rfl, hb2, hy, -, hy0⟩ := (h2.below hbel hB).int_ (show k < ys.length by omega)
      have Hx := Lib.hid (joinL_snoc hx hy)
      have hi2 : (k : Int) < (ys.length : Int) := by omega
      have Hown := Lib.hid hown
      have Hb := Lib.hid hbel
      have hbw1 : b1 < wr.heap.size := by omega
      have hbw2 : b2 < wr.heap.size := by omega
      clear hx hy hown hbel
      by_cases hxy : x < y
      · have hM : maxI x y = y := if_pos hxy
        rw [hM] at Hx
        clear hM
        go_wp2_with (at_builtin; refine wpList_append_own _ rfl (.tmp 29) (.tmp 31) 25 rfl w.heap.size 3 i0 _ 1 8 Try.underlying25 hi iz0 iz1 iz2 rfl (by decide) _ k _ rfl (Hown.out.alloc _) ⟨_, 0, none⟩ 1 1 [.int .i64 _] rfl rfl (cell1_new _ _ _) (by intro u hu; simp at hu; subst hu; rfl) (by unfold maxLen; omega) (by omega) (by simp; omega) ?_; intro v' w3 own3 grow3 _; obtain ⟨g3, cap3, rfl, hg3, hlt3⟩ := own3.form (by omega); have Own3 := Lib.hid own3; have B3 := Lib.hid ((Hb.out.alloc hz _).grown grow3 (by simp; omega) (by intro q hq; cases hq; exact hgg)); clear own3 grow3)
        go_roundw
        case rel => exact ⟨k + 1, g3, cap3, by omega, by go_num, rfl, hg3, by rw [Hx.out]; exact Own3.out, B3.out⟩
        case measure => simp [intOf]; omega
      · have hM : maxI x y = x := if_neg hxy
        rw [hM] at Hx
        clear hM
        go_wp2_with (at_builtin; refine wpList_append_own _ rfl (.tmp 29) (.tmp 31) 25 rfl w.heap.size 3 i0 _ 1 8 Try.underlying25 hi iz0 iz1 iz2 rfl (by decide) _ k _ rfl (Hown.out.alloc _) ⟨_, 0, none⟩ 1 1 [.int .i64 _] rfl rfl (cell1_new _ _ _) (by intro u hu; simp at hu; subst hu; rfl) (by unfold maxLen; omega) (by omega) (by simp; omega) ?_; intro v' w3 own3 grow3 _; obtain ⟨g3, cap3, rfl, hg3, hlt3⟩ := own3.form (by omega); have Own3 := Lib.hid own3; have B3 := Lib.hid ((Hb.out.alloc hz _).grown grow3 (by simp; omega) (by intro q hq; cases hq; exact hgg)); clear own3 grow3)
        go_roundw
        case rel => exact ⟨k + 1, g3, cap3, by omega, by go_num, rfl, hg3, by rw [Hx.out]; exact Own3.out, B3.out⟩
        case measure => simp [intOf]; omega
    · have hkl : k = (joinL xs ys).length := by omega
      subst hkl
      rw [List.take_length] at hown
      have Hown := Lib.hid hown
      clear hown
      go_wp2
      go_ret
      obtain ⟨q1, q2⟩ := own_cap Hown.out
      exact ⟨g, cap, rfl, q1, q2, hgg, hbel, own_vs Hown.out rfl⟩
theorem sjoin_any (k1 : IsH) (xs : List Int) (k2 : IsH) (ys : List Int) (w : World) (B : Nat) (h1 : IsR w B k1 xs) (h2 : IsR w B k2 ys) (hB : B ≤ w.heap.size) (S1 : IsS xs) (S2 : IsS ys) :
    Calls Try.prog 52 #[IsV k1 xs, IsV k2 ys] w (AnsIl w (joiE xs ys) (joiR xs ys)) := by
  obtain ⟨A1, c1⟩ := k1
  obtain ⟨A2, c2⟩ := k2
  show Calls Try.prog 52 #[.slice A1 xs.length c1, .slice A2 ys.length c2] w _
  obtain ⟨h1⟩ := h1
  obtain ⟨h2⟩ := h2
  have h1 : Vs w B A1 (ints xs) := h1
  have h2 : Vs w B A2 (ints ys) := h2
  have hm1 := S1.l0
  have hm2 := S2.l0
  clear S1 S2
  by_cases hlen : xs.length = ys.length
  · have hne : ((xs.length : Int) != (ys.length : Int)) = false := by simp; omega
    have eE : joiE xs ys = joinL xs ys := if_pos hlen
    have eR : joiR xs ys = true := by simp [joiR, hlen]
    rw [eE, eR]
    have hs := Lib.hid (sjoin0_any A1 A2 c1 c2 xs ys w B h1 h2 hB hlen hm1)
    generalize joinL xs ys = Z at *
    have hle1 := Nat.le_of_eq hlen
    have hle2 := Nat.le_of_eq hlen.symm
    clear eE eR hlen
    go_enter Try.func52, Try.ntmps52
    go_wp2_with fail
    refine hs.out.mono ?_
    rintro e w1 ⟨g, cap, rfl, -, -, -, hb1, ho⟩
    go_wp2
    go_returns
    exact ⟨⟨_, cap⟩, rfl, hb1, hb1.size, ⟨ho⟩⟩
  · have hne : ((xs.length : Int) != (ys.length : Int)) = true := by simp; omega
    have eE : joiE xs ys = [] := if_neg hlen
    have eR : joiR xs ys = false := by simp [joiR, hlen]
    rw [eE, eR]
    go_enter Try.func52, Try.ntmps52
    go_wp2
    go_returns
    exact ⟨⟨none, 0⟩, rfl, Below.refl _ _, Nat.le_refl _, ⟨OwnVs.nil _ _ _ _ _⟩⟩
end Go.Proofs.Ytidibnmlceccnaa
namespace Go.Proofs.Ytidibnmlceccnaa
open Go.RowKit Pl Go.BigFrame
set_option maxHeartbeats 4000000
set_option maxRecDepth 100000
set_option linter.unusedVariables false

structure WkH where
  zb : Nat
  gT : Nat
  gL : Nat
  gC : Nat
  cT : Nat
  cL : Nat
  cC : Nat
  vW : Value
  vR : Value
def valid (n p : Nat) : Prop := p < n ∨ (6 ≤ p ∧ p < 10)
structure Wk (w : World) (lo hi n : Nat) (S : Nat → Ck) (D : Nat → Nat) (z : WkH) : Prop where
  bx : Bk w z.zb 128 #[.slice (some ⟨z.gT, 0, none⟩) n z.cT, .slice (some ⟨z.gL, 0, none⟩) 2 z.cL, .slice (some ⟨z.gC, 0, none⟩) 2 z.cC, z.vW, z.vR]
  b0 : lo ≤ z.zb ∧ z.zb < hi
  tT : TabC w lo hi z.gT n n S D 0
  tL : TabC w lo hi z.gL 2 n S D 6
  tC : TabC w lo hi z.gC 2 n S D 8
  ne : z.gT ≠ z.gL ∧ z.gT ≠ z.gC ∧ z.gL ≠ z.gC
  inj : ∀ p q, valid n p → valid n q → D p = D q → p = q
theorem Wk.keep {w w' : World} {lo hi hi' n : Nat} {S : Nat → Ck} {D : Nat → Nat} {z : WkH} (h : Wk w lo hi n S D z) (hh : hi ≤ hi') (hk : ∀ q, lo ≤ q → q < hi → w'.heap[q]? = w.heap[q]?) : Wk w' lo hi' n S D z :=
  ⟨(hk _ h.b0.1 h.b0.2).trans h.bx, ⟨h.b0.1, by have := h.b0.2; omega⟩, h.tT.keep hh hk, h.tL.keep hh hk, h.tC.keep hh hk, h.ne, h.inj⟩
theorem Wk.below {w w' : World} {lo hi hi' n B : Nat} {S : Nat → Ck} {D : Nat → Nat} {z : WkH} (h : Wk w lo hi n S D z) (hb : Below B w w') (hB : hi ≤ B) (hh : hi ≤ hi') : Wk w' lo hi' n S D z :=
  h.keep hh fun q _ hq => hb.block q (by omega)
/-- A clock in a row. -/
def NowR (w : World) (g n : Nat) (c : Ck) : Prop := ∃ cs, Bk w g 3 cs ∧ ∀ a, a < n → cs[a]? = some (.int .i64 (c a : Nat))
theorem NowR.lt {w : World} {g n : Nat} {c : Ck} (h : NowR w g n c) : g < w.heap.size := by obtain ⟨cs, hb, _⟩ := h; exact hb.lt
theorem NowR.same {w w' : World} {g n : Nat} {c : Ck} (h : NowR w g n c) (hk : w'.heap[g]? = w.heap[g]?) : NowR w' g n c := by
  obtain ⟨cs, hb, hc⟩ := h
  exact ⟨cs, hk.trans hb, hc⟩
theorem NowR.below {w w' : World} {g n : Nat} {c : Ck} (h : NowR w g n c) (hb : Below w.heap.size w w') : NowR w' g n c := h.same (hb.block g h.lt)
theorem NowR.vs {w : World} {g n : Nat} {c : Ck} (h : NowR w g n c) : Vs w w.heap.size (some ⟨g, 0, none⟩) (ints (rowC n c)) := by
  have hl := h.lt
  obtain ⟨cs, hb, hc⟩ := h
  intro _
  refine ⟨g, 0, rfl, hl, fun j v hj => ?_⟩
  have hjl := (List.getElem?_eq_some_iff.1 hj).1
  rw [ints_length, rowC_length] at hjl
  have e : (ints (rowC n c))[j]? = some (.int .i64 (c j : Nat)) := by simp [ints, rowC, hjl]
  rw [e] at hj
  injection hj with hj
  rw [← hj, Nat.zero_add]
  exact (hb.cell j).trans (hc j hjl)
theorem NowR.cell {w : World} {g n : Nat} {c : Ck} (h : NowR w g n c) {t : Nat} (ht : t < n) : w.cell? ⟨g, t, none⟩ = some (.int .i64 (c t : Nat)) ∧ w.frozen? ⟨g, t, none⟩ = false := by
  obtain ⟨cs, hb, hc⟩ := h
  exact ⟨(hb.cell t).trans (hc t ht), hb.free t⟩
theorem NowR.inc {w : World} {g n : Nat} {c : Ck} (h : NowR w g n c) {t : Nat} (ht : t < n) : NowR (w.setCell ⟨g, t, none⟩ (.int .i64 ((c t : Int) + 1))) g n (incC c t) := by
  obtain ⟨cs, hb, hc⟩ := h
  have hs : t < cs.size := (Array.getElem?_eq_some_iff.1 (hc t ht)).1
  refine ⟨_, hb.set t _, fun a ha => ?_⟩
  unfold incC upd
  by_cases e : a = t
  · subst e; rw [Array.getElem?_setIfInBounds_self_of_lt hs, if_pos rfl]; simp
  · rw [Array.getElem?_setIfInBounds_ne (by omega), if_neg e]; exact hc a ha
theorem made_now {w w' : World} {n : Nat} {c : Ck} {e : Ending} (hn : 1 ≤ n) (h : MadeI w (rowC n c) e w') : ∃ g cap, e = .returned (.slice (some ⟨g, 0, none⟩) n cap) ∧ w.heap.size ≤ g ∧ Below w.heap.size w w' ∧ NowR w' g n c := by
  obtain ⟨g, cap, rfl, h1, h2, hg, hb, ho⟩ := h
  rw [rowC_length] at h1 ⊢
  obtain ⟨gx, cs, hA, -, -, hbk, hcs⟩ := ho (by rw [ints_length, rowC_length]; omega)
  injection hA with hA
  injection hA with hA
  subst hA
  exact ⟨g, cap, rfl, hg, hb, cs, hbk, fun a ha => hcs a _ (by simp [ints, rowC, ha])⟩
theorem join_row (n : Nat) (a b : Ck) : joinL (rowC n a) (rowC n b) = rowC n (joinC a b) := by
  unfold joinL rowC
  apply List.ext_getElem?
  intro i
  rw [List.getElem?_zipWith]
  by_cases h : i < n
  · simp only [List.getElem?_map, List.getElem?_range h, Option.map_some]
    congr 1
    unfold maxI joinC
    split <;> omega
  · have e : (List.range n)[i]? = none := List.getElem?_eq_none (by simp; omega)
    simp [e]
theorem nums_row (g n c : Nat) (ck : Ck) (w : World) (B : Nat) (hR : Vs w B (some ⟨g, 0, none⟩) (ints (rowC n ck))) (hB : B ≤ w.heap.size) (hn : n ≤ 3) (hn1 : 1 ≤ n) :
    Calls Try.prog 139 #[.slice (some ⟨g, 0, none⟩) n c] w fun e w' => ∃ g' cap, e = .returned (.slice (some ⟨g', 0, none⟩) n cap) ∧ w.heap.size ≤ g' ∧ Below w.heap.size w w' ∧ NowR w' g' n ck := by
  have h := nums_any (some ⟨g, 0, none⟩) c (rowC n ck) w B hR hB (by rw [rowC_length]; omega)
  rw [rowC_length] at h
  exact h.mono fun e w' hm => made_now hn1 hm
theorem join_rows (g1 c1 g2 c2 n : Nat) (a b : Ck) (w : World) (B : Nat) (h1 : Vs w B (some ⟨g1, 0, none⟩) (ints (rowC n a))) (h2 : Vs w B (some ⟨g2, 0, none⟩) (ints (rowC n b))) (hB : B ≤ w.heap.size) (hn : n ≤ 3) (hn1 : 1 ≤ n) :
    Calls Try.prog 98 #[.slice (some ⟨g1, 0, none⟩) n c1, .slice (some ⟨g2, 0, none⟩) n c2] w fun e w' => ∃ g' cap, e = .returned (.slice (some ⟨g', 0, none⟩) n cap) ∧ w.heap.size ≤ g' ∧ Below w.heap.size w w' ∧ NowR w' g' n (joinC a b) := by
  have h := sjoin0_any (some ⟨g1, 0, none⟩) (some ⟨g2, 0, none⟩) c1 c2 (rowC n a) (rowC n b) w B h1 h2 hB (by rw [rowC_length, rowC_length]) (by rw [rowC_length]; omega)
  rw [rowC_length, rowC_length, join_row] at h
  exact h.mono fun e w' hm => made_now hn1 hm

/-! ### a new row -/
theorem TabC.put {w v : World} {lo hi hi' g m n r c : Nat} {S : Nat → Ck} {D : Nat → Nat} {b i : Nat} {ck : Ck} (h : TabC w lo hi g m n S D b) (him : i < m) (hv : ∀ q, lo ≤ q → q < hi → v.heap[q]? = w.heap[q]?) (hr0 : lo ≤ r) (hr1 : r < hi') (hh : hi ≤ hi') (hrh : hi ≤ r) (hb : NowR v r n ck) :
    TabC (v.setCell ⟨g, i, none⟩ (.slice (some ⟨r, 0, none⟩) n c)) lo hi' g m n (updC S (b + i) ck) (upd D (b + i) r) b := by
  obtain ⟨h0, h1, cs, hbk, hr⟩ := h
  have hg := (hv g h0 h1).trans hbk
  have hs : i < cs.size := by obtain ⟨_, _, ⟨c', hc'⟩, _⟩ := hr i him; exact (Array.getElem?_eq_some_iff.1 hc').1
  refine ⟨h0, by omega, _, Bk.set hg i _, fun j hj => ?_⟩
  obtain ⟨a1, a2, ⟨c', hc'⟩, cr, hbr, hcr⟩ := hr j hj
  by_cases e : j = i
  · subst e
    have e1 : upd D (b + j) r (b + j) = r := by unfold upd; rw [if_pos rfl]
    have e2 : updC S (b + j) ck (b + j) = ck := by unfold updC; rw [if_pos rfl]
    rw [e1, e2]
    obtain ⟨cr', hbr', hcr'⟩ := hb
    refine ⟨hr0, hr1, ⟨c, Array.getElem?_setIfInBounds_self_of_lt hs⟩, cr', (Below.heap_setCell v ⟨g, j, none⟩ _ r (by show r ≠ g; omega)).trans hbr', hcr'⟩
  · have e1 : upd D (b + i) r (b + j) = D (b + j) := by unfold upd; rw [if_neg (by omega)]
    have e2 : updC S (b + i) ck (b + j) = S (b + j) := by unfold updC; rw [if_neg (by omega)]
    rw [e1, e2]
    have hne : D (b + j) ≠ g := fun e3 => by
      rw [e3] at hbr
      unfold Bk at hbr hbk
      rw [hbk] at hbr
      injection hbr with hbr
      injection hbr with _ hbr
      cases hbr
    exact ⟨a1, by omega, ⟨c', by rw [Array.getElem?_setIfInBounds_ne (by omega)]; exact hc'⟩, cr, (Below.heap_setCell v ⟨g, i, none⟩ _ _ hne).trans ((hv _ a1 a2).trans hbr), hcr⟩
theorem TabC.far {w v : World} {lo hi hi' g g' j m n : Nat} {x : Value} {S S' : Nat → Ck} {D D' : Nat → Nat} {b : Nat} {cs' : Array Value} (h : TabC w lo hi g m n S D b) (hv : ∀ q, lo ≤ q → q < hi → v.heap[q]? = w.heap[q]?) (hh : hi ≤ hi') (hne : g ≠ g') (hb' : Bk w g' 25 cs')
    (hS : ∀ i, i < m → S' (b + i) = S (b + i)) (hD : ∀ i, i < m → D' (b + i) = D (b + i)) : TabC (v.setCell ⟨g', j, none⟩ x) lo hi' g m n S' D' b := by
  obtain ⟨h0, h1, cs, hbk, hr⟩ := h
  refine ⟨h0, by omega, cs, (Below.heap_setCell v ⟨g', j, none⟩ _ g hne).trans ((hv g h0 h1).trans hbk), fun i hi2 => ?_⟩
  obtain ⟨a1, a2, hc, cr, hbr, hcr⟩ := hr i hi2
  rw [hS i hi2, hD i hi2]
  have hne2 : D (b + i) ≠ g' := fun e3 => by
    rw [e3] at hbr
    unfold Bk at hbr hb'
    rw [hb'] at hbr
    injection hbr with hbr
    injection hbr with _ hbr
    cases hbr
  exact ⟨a1, by omega, hc, cr, (Below.heap_setCell v ⟨g', j, none⟩ _ _ hne2).trans ((hv _ a1 a2).trans hbr), hcr⟩
theorem Wk.lt {w : World} {lo hi n : Nat} {S : Nat → Ck} {D : Nat → Nat} {z : WkH} (h : Wk w lo hi n S D z) {p : Nat} (hp : valid n p) : D p < hi := by
  obtain ⟨_, _, _, _, hT⟩ := h.tT
  obtain ⟨_, _, _, _, hL⟩ := h.tL
  obtain ⟨_, _, _, _, hC⟩ := h.tC
  unfold valid at hp
  by_cases h1 : p < n
  · have := (hT p h1).2.1; rwa [Nat.zero_add] at this
  · by_cases h2 : p < 8
    · have := (hL (p - 6) (by omega)).2.1; rwa [show 6 + (p - 6) = p by omega] at this
    · have := (hC (p - 8) (by omega)).2.1; rwa [show 8 + (p - 8) = p by omega] at this
theorem inj_upd {w : World} {lo hi n : Nat} {S : Nat → Ck} {D : Nat → Nat} {z : WkH} (h : Wk w lo hi n S D z) {p r : Nat} (hr : hi ≤ r) : ∀ a b, valid n a → valid n b → upd D p r a = upd D p r b → a = b := by
  intro a b ha hb e
  have la := h.lt ha
  have lb := h.lt hb
  unfold upd at e
  by_cases e1 : a = p
  · by_cases e2 : b = p
    · omega
    · rw [if_pos e1, if_neg e2] at e; omega
  · by_cases e2 : b = p
    · rw [if_neg e1, if_pos e2] at e; omega
    · rw [if_neg e1, if_neg e2] at e; exact h.inj a b ha hb e
theorem Wk.putT {w v : World} {lo n r c t : Nat} {S : Nat → Ck} {D : Nat → Nat} {z : WkH} {ck : Ck} (h : Wk w lo w.heap.size n S D z) (hb : Below w.heap.size w v) (ht : t < n) (hn : n ≤ 3) (hr : w.heap.size ≤ r) (hN : NowR v r n ck) :
    Wk (v.setCell ⟨z.gT, t, none⟩ (.slice (some ⟨r, 0, none⟩) n c)) lo v.heap.size n (updC S t ck) (upd D t r) z := by
  have hv : ∀ q, lo ≤ q → q < w.heap.size → v.heap[q]? = w.heap[q]? := fun q _ hq => hb.block q hq
  have hl := hN.lt
  have h0 := h.b0
  obtain ⟨x0, x1, cs, hbk, _⟩ := id h.tT
  have hs := hb.size
  have T := h.tT.put (c := c) ht hv (by omega) hl hs hr hN
  rw [Nat.zero_add] at T
  exact ⟨(Below.heap_setCell v ⟨z.gT, t, none⟩ _ z.zb (fun e => by
    have e : z.zb = z.gT := e
    have h1 := h.bx
    rw [e] at h1
    unfold Bk at h1 hbk
    rw [hbk] at h1
    injection h1 with h1
    injection h1 with _ h1
    cases h1)).trans ((hv _ h0.1 h0.2).trans h.bx), ⟨h0.1, by omega⟩, T,
    h.tL.far hv hs (fun e => h.ne.1 e.symm) hbk (fun i hi => by unfold updC; rw [if_neg (by omega)]) (fun i hi => by unfold upd; rw [if_neg (by omega)]),
    h.tC.far hv hs (fun e => h.ne.2.1 e.symm) hbk (fun i hi => by unfold updC; rw [if_neg (by omega)]) (fun i hi => by unfold upd; rw [if_neg (by omega)]), h.ne, inj_upd h hr⟩
theorem Wk.putL {w v : World} {lo n r c t : Nat} {S : Nat → Ck} {D : Nat → Nat} {z : WkH} {ck : Ck} (h : Wk w lo w.heap.size n S D z) (hb : Below w.heap.size w v) (ht : t < 2) (hn : n ≤ 3) (hr : w.heap.size ≤ r) (hN : NowR v r n ck) :
    Wk (v.setCell ⟨z.gL, t, none⟩ (.slice (some ⟨r, 0, none⟩) n c)) lo v.heap.size n (updC S (6 + t) ck) (upd D (6 + t) r) z := by
  have hv : ∀ q, lo ≤ q → q < w.heap.size → v.heap[q]? = w.heap[q]? := fun q _ hq => hb.block q hq
  have hl := hN.lt
  have h0 := h.b0
  obtain ⟨x0, x1, cs, hbk, _⟩ := id h.tL
  have hs := hb.size
  have T := h.tL.put (c := c) ht hv (by omega) hl hs hr hN
  exact ⟨(Below.heap_setCell v ⟨z.gL, t, none⟩ _ z.zb (fun e => by
    have e : z.zb = z.gL := e
    have h1 := h.bx
    rw [e] at h1
    unfold Bk at h1 hbk
    rw [hbk] at h1
    injection h1 with h1
    injection h1 with _ h1
    cases h1)).trans ((hv _ h0.1 h0.2).trans h.bx), ⟨h0.1, by omega⟩,
    h.tT.far hv hs h.ne.1 hbk (fun i hi => by unfold updC; rw [if_neg (by omega)]) (fun i hi => by unfold upd; rw [if_neg (by omega)]), T,
    h.tC.far hv hs (fun e => h.ne.2.2 e.symm) hbk (fun i hi => by unfold updC; rw [if_neg (by omega)]) (fun i hi => by unfold upd; rw [if_neg (by omega)]), h.ne, inj_upd h hr⟩
theorem Wk.putC {w v : World} {lo n r c t : Nat} {S : Nat → Ck} {D : Nat → Nat} {z : WkH} {ck : Ck} (h : Wk w lo w.heap.size n S D z) (hb : Below w.heap.size w v) (ht : t < 2) (hn : n ≤ 3) (hr : w.heap.size ≤ r) (hN : NowR v r n ck) :
    Wk (v.setCell ⟨z.gC, t, none⟩ (.slice (some ⟨r, 0, none⟩) n c)) lo v.heap.size n (updC S (8 + t) ck) (upd D (8 + t) r) z := by
  have hv : ∀ q, lo ≤ q → q < w.heap.size → v.heap[q]? = w.heap[q]? := fun q _ hq => hb.block q hq
  have hl := hN.lt
  have h0 := h.b0
  obtain ⟨x0, x1, cs, hbk, _⟩ := id h.tC
  have hs := hb.size
  have T := h.tC.put (c := c) ht hv (by omega) hl hs hr hN
  exact ⟨(Below.heap_setCell v ⟨z.gC, t, none⟩ _ z.zb (fun e => by
    have e : z.zb = z.gC := e
    have h1 := h.bx
    rw [e] at h1
    unfold Bk at h1 hbk
    rw [hbk] at h1
    injection h1 with h1
    injection h1 with _ h1
    cases h1)).trans ((hv _ h0.1 h0.2).trans h.bx), ⟨h0.1, by omega⟩,
    h.tT.far hv hs h.ne.2.1 hbk (fun i hi => by unfold updC; rw [if_neg (by omega)]) (fun i hi => by unfold upd; rw [if_neg (by omega)]),
    h.tL.far hv hs h.ne.2.2 hbk (fun i hi => by unfold updC; rw [if_neg (by omega)]) (fun i hi => by unfold upd; rw [if_neg (by omega)]), T, h.ne, inj_upd h hr⟩
/-- What a step of the walk comes to. -/
def Stp (w : World) (lo n : Nat) (S : Nat → Ck) (z : WkH) (x : Evt) (e : Ending) (w' : World) : Prop :=
  ∃ (g c : Nat) (D : Nat → Nat), e = .returned (.slice (some ⟨g, 0, none⟩) n c) ∧ w.heap.size ≤ g ∧ NowR w' g n (nowS S x) ∧ Below lo w w' ∧ Wk w' lo w'.heap.size n (nextS S x) D z ∧ ∀ q, q < w.heap.size → q ≠ z.gT → q ≠ z.gL → q ≠ z.gC → w'.heap[q]? = w.heap[q]?
end Go.Proofs.Ytidibnmlceccnaa
