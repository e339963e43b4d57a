/-
  What the program's ordersFrom comes to, where all orders are asked for.
-/
import Derived.Test.YtakadejpgndhpaaOrdP
import Derived.Deep.RegionHeld3
import Derived.Deep.DeepCutAuto
namespace Go.Proofs.Ytakadejpgndhpaa
open Go.RowKit Pl
set_option maxHeartbeats 4000000
set_option maxRecDepth 100000
set_option linter.unusedVariables false

/-- An order in a block. -/
def AccAt (w : World) (ga : Nat) (acc : List Int) : Prop := ∃ cs, Bk w ga 3 cs ∧ ∀ (a : Nat) (v : Value), (ints acc)[a]? = some v → cs[a]? = some v
theorem AccAt.lt {w : World} {ga : Nat} {acc : List Int} (h : AccAt w ga acc) : ga < w.heap.size := by obtain ⟨cs, hb, _⟩ := h; exact hb.lt
theorem AccAt.below {w w' : World} {ga : Nat} {acc : List Int} (h : AccAt w ga acc) (hb : Below w.heap.size w w') : AccAt w' ga acc := by
  obtain ⟨cs, hbk, hx⟩ := h
  exact ⟨cs, hbk.below hb hbk.lt, hx⟩
theorem AccAt.vs {w : World} {ga : Nat} {acc : List Int} (h : AccAt w ga acc) : Vs w w.heap.size (some ⟨ga, 0, none⟩) (ints acc) := fun _ => by
  obtain ⟨cs, hb, hx⟩ := h
  exact ⟨ga, 0, rfl, hb.lt, fun j u hj => by rw [Nat.zero_add]; exact (hb.cell j).trans (hx j u hj)⟩
/-- Whole orders, each in a block of its own from ga on. -/
def OrdA (w : World) (ga : Nat) (Ls : List (List Int)) (e : Ending) (w' : World) : Prop :=
  ∃ (g cap : Nat) (D C : Nat → Nat), e = .returned (.slice (some ⟨g, 0, none⟩) Ls.length cap) ∧ Below w.heap.size w w' ∧ w.heap.size ≤ g ∧ w'.ownsRow w.heap.size 51 1 (.slice (some ⟨g, 0, none⟩) Ls.length cap) Ls.length (headsC Ls D C) ∧ RowsI w' ga w'.heap.size Ls D
theorem ofrom_end (h : PgH) (L : Pg) (hL : progB L = true) (f : Nat → Nat) (acc : List Int) (ga c : Nat) (w : World) (I : Inv L f) (hA : AccAt w ga acc) (he : endB L f = true) :
    Calls Try.prog 171 #[PgV h L, .agg #[.slice (some ⟨ga, 0, none⟩) acc.length c, .int .u64 (enc WS f : Nat), .int .u64 0], .bool false] w (OrdA w ga [acc]) := by
  obtain ⟨W, hW⟩ : ∃ W, W = (w.alloc (.cells #[.slice h.A L.length h.c] 30)).alloc (.cells #[.slice (some ⟨ga, 0, none⟩) acc.length c, .int .u64 (enc WS f : Nat), .int .u64 0] 182) := ⟨_, rfl⟩
  have bW : Below w.heap.size w W := by rw [hW]; go_grown
  have sW : W.heap.size = w.heap.size + 1 + 1 := by rw [hW]; simp
  have k0 : Bk W w.heap.size 30 #[.slice h.A L.length h.c] := by rw [hW]; exact (Bk.new w _ _).alloc _
  have k1 : Bk W (w.heap.size + 1) 182 #[.slice (some ⟨ga, 0, none⟩) acc.length c, .int .u64 (enc WS f : Nat), .int .u64 0] := by
    rw [hW]; have := Bk.new (w.alloc (.cells #[.slice h.A L.length h.c] 30)) #[.slice (some ⟨ga, 0, none⟩) acc.length c, .int .u64 (enc WS f : Nat), .int .u64 0] 182
    rwa [World.size_alloc] at this
  have BW := Lib.hid bW
  have HW := Lib.hid hW
  have K1 := Lib.hid k1
  have HE := Lib.hid he
  have HA := Lib.hid (hA.below bW)
  have c0 := k0.cell 0
  have c1 := k1.cell 1
  have l0 := k0.lt
  have l1 := k1.lt
  have hga := hA.lt
  have hsz := bW.size
  simp at c1
  clear hW bW sW k0 k1 he hA
  go_enter Try.func171, Try.ntmps171
  go_wp2_with fail
  rw [← HW.out]
  go_wp2_with fail
  refine (isend_any h L f W hL I true HE).mono ?_
  rintro e w1 ⟨rfl, hb1⟩
  have k1 := K1.out.below hb1 l1
  have d0 := k1.cell 0
  have m1 := k1.lt
  have B1 := Lib.hid (below_on BW.out hb1)
  have A1 := Lib.hid (HA.out.below hb1)
  have hs1 := hb1.size
  simp at d0
  clear hb1 k1 c0 c1
  go_wp2
  go_ret
  refine ⟨w1.heap.size, 1, fun _ => ga, fun _ => c, rfl, by have := B1.out; go_grown, by omega, ?_, ?_⟩
  · exact ⟨rfl, Or.inr ⟨w1.heap.size, 1, _, rfl, by omega, Bk.new _ _ _, Nat.le_refl _, by unfold maxLen; omega, rfl, rfl⟩⟩
  · obtain ⟨cs, hb, hx⟩ := A1.out
    refine ⟨fun j xs hj => ?_, fun i j h1 h2 => absurd h2 (by simp; omega)⟩
    have hj0 : j = 0 := by have := (List.getElem?_eq_some_iff.1 hj).1; simpa using this
    subst hj0
    simp at hj
    subst hj
    exact ⟨Nat.le_refl _, by simp; omega, cs, hb.alloc _, hx⟩
theorem ordP_len {L : Pg} (h3 : L.length ≤ 3) : ∀ (m : Nat) (f : Nat → Nat) (acc : List Int), (ordP L m f acc).length ≤ 3 ^ m := by
  intro m
  induction m with
  | zero => intro f acc; exact Nat.le_refl _
  | succ m ih =>
    intro f acc
    have key : ∀ t, (ordK L m f acc t).length ≤ t * 3 ^ m := by
      intro t
      induction t with
      | zero => exact Nat.zero_le _
      | succ t iht =>
        rw [ordK_succ, List.length_append, Nat.add_mul, Nat.one_mul]
        have h2 : (if goB L f (t : Int) then ordP L m (stepF L f t) (acc ++ [(t : Int)]) else []).length ≤ 3 ^ m := by
          split
          · exact ih _ _
          · exact Nat.zero_le _
        omega
    unfold ordP
    split
    · have : 0 < 3 ^ (m + 1) := Nat.pow_pos (by omega)
      exact this
    · have h1 := key L.length
      have h2 : L.length * 3 ^ m ≤ 3 * 3 ^ m := Nat.mul_le_mul_right _ h3
      unfold ordK at h1
      rw [Nat.pow_succ, Nat.mul_comm]
      omega
theorem ordK_len {L : Pg} (h3 : L.length ≤ 3) (m : Nat) (f : Nat → Nat) (acc : List Int) : ∀ t, (ordK L m f acc t).length ≤ t * 3 ^ m := by
  intro t
  induction t with
  | zero => exact Nat.zero_le _
  | succ t iht =>
    rw [ordK_succ, List.length_append, Nat.add_mul, Nat.one_mul]
    have h2 : (if goB L f (t : Int) then ordP L m (stepF L f t) (acc ++ [(t : Int)]) else []).length ≤ 3 ^ m := by
      split
      · exact ordP_len h3 _ _ _
      · exact Nat.zero_le _
    omega
theorem own_form1 {w : World} {base n m : Nat} {e : TypeId} {v v0 : Value} {xs : List Value} (h : w.ownsRow base e 1 v n xs) (hi : v = .slice none 0 0 ↔ v0 = .slice none 0 0 ∧ m = 0) (h0 : v0 ≠ .slice none 0 0) :
    ∃ g cap, v = .slice (some ⟨g, 0, none⟩) n cap ∧ base ≤ g ∧ w.ownsRow base e 1 (.slice (some ⟨g, 0, none⟩) n cap) n xs := by
  have h' := h
  rcases h.2 with ⟨h1, _⟩ | ⟨g, cap, cur, e1, e2, _⟩
  · exact absurd (hi.1 h1).1 h0
  · rw [e1] at h'
    exact ⟨g, cap, e1, e2, h'⟩
theorem heads_news {w : World} {base g cap : Nat} {t : TypeId} {vs : List Value} (h : w.ownsRow base t 1 (.slice (some ⟨g, 0, none⟩) vs.length cap) vs.length vs) : ∀ j u, vs[j]? = some u → w.cell? ((⟨g, 0, none⟩ : Addr).add j) = some u := by
  intro j u hj
  have hl := (List.getElem?_eq_some_iff.1 hj).1
  obtain ⟨g', cs, hA, _, _, hb, hx⟩ := own_vs h rfl (by omega)
  injection hA with hA
  injection hA with hA
  subst hA
  rw [addr_add', Nat.zero_add]
  exact (hb.cell j).trans (hx j u hj)
theorem heads_one (Ls : List (List Int)) (D C : Nat → Nat) : ∀ u ∈ headsC Ls D C, u.oneCell' = true := by
  intro u hu
  simp only [headsC, List.mem_map] at hu
  obtain ⟨j, _, rfl⟩ := hu
  rfl
/-- What the loop over threads has come to. -/
def OrdL (w wr : World) (v : Value) (Ls : List (List Int)) : Prop :=
  ∃ (g cap : Nat) (D C : Nat → Nat), v = .slice (some ⟨g, 0, none⟩) Ls.length cap ∧ w.heap.size ≤ g ∧ wr.ownsRow w.heap.size 51 1 (.slice (some ⟨g, 0, none⟩) Ls.length cap) Ls.length (headsC Ls D C) ∧ RowsI wr w.heap.size wr.heap.size Ls D ∧ Below w.heap.size w wr
theorem ordL_next {w w5 w7 : World} {Ls Ms : List (List Int)} {g cap : Nat} {D C D2 C2 : Nat → Nat} {mid ga g7 cap7 : Nat} (hbel : Below w.heap.size w w5) (hrows : RowsI w5 w.heap.size mid Ls D) (hm : mid ≤ ga) (hw : w.heap.size ≤ mid) (hr6 : RowsI w5 ga w5.heap.size Ms D2) (hmid : mid ≤ w5.heap.size)
    (own : w5.ownsRow w.heap.size 51 1 (.slice (some ⟨g, 0, none⟩) Ls.length cap) Ls.length (headsC Ls D C)) (grow : w5.grownBy w7 (Value.slice (some ⟨g, 0, none⟩) Ls.length cap).ownBlock)
    (hg7 : w.heap.size ≤ g7) (own7 : w7.ownsRow w.heap.size 51 1 (.slice (some ⟨g7, 0, none⟩) (Ls.length + Ms.length) cap7) (Ls.length + Ms.length) (headsC Ls D C ++ headsC Ms D2 C2)) :
    OrdL w w7 (.slice (some ⟨g7, 0, none⟩) (Ls.length + Ms.length) cap7) (Ls ++ Ms) := by
  obtain ⟨g0, g1, cu, hcu⟩ := owns_block own (q := g) rfl
  have hk : ∀ i cs, i < w5.heap.size → Bk w5 i 3 cs → w7.heap[i]? = w5.heap[i]? := fun i cs hi hb => grow.block i hi (fun e => by
    have e : i = g := by injection e
    subst e
    unfold Bk at hb hcu
    rw [hcu] at hb
    injection hb with hb
    injection hb with _ hb
    cases hb)
  have hz := grow.size
  refine ⟨g7, cap7, catF Ls.length D D2, catF Ls.length C C2, by rw [List.length_append], hg7, by rw [headsC_cat, List.length_append]; exact own7, ?_, ?_⟩
  · have a1 := hrows.keep (w' := w7) (Nat.le_refl _) (Nat.le_refl _) fun i cs _ h2 hb => hk i cs (by omega) hb
    have a2 := hr6.keep (w' := w7) (lo' := mid) (hi' := w7.heap.size) hm hz fun i cs _ h2 hb => hk i cs h2 hb
    exact a1.cat a2 hw (by omega)
  · exact hbel.grown grow hbel.size (fun q hq => by cases hq; exact g0)
/-- The path that goes on lies in a box. -/
def GotP (V : World) (acc : List Int) (N : Nat) (sa : Value) (wx : World) : Prop :=
  ∃ (b g5 cap5 : Nat), sa = .pointer (some ⟨b, 0, none⟩) ∧ Below V.heap.size V wx ∧ V.heap.size ≤ b ∧ V.heap.size ≤ g5 ∧ Bk wx b 182 #[.slice (some ⟨g5, 0, none⟩) acc.length cap5, .int .u64 (N : Nat), .int .u64 0] ∧ AccAt wx g5 acc
theorem gotP_late {V v3 : World} {acc : List Int} {N g5 cap5 n : Nat} (hn : acc.length = n) (hb : Below V.heap.size V v3) (hg : V.heap.size ≤ g5) (ha : AccAt v3 g5 acc) :
    GotP V acc N (.pointer (some ⟨v3.heap.size, 0, none⟩)) (v3.alloc (.cells #[.slice (some ⟨g5, 0, none⟩) n cap5, .int .u64 (N : Nat), .int .u64 0] 182)) := by
  subst hn
  exact ⟨_, g5, cap5, rfl, hb.alloc hb.size _, hb.size, hg, Bk.new _ _ _, ha.below ((Below.refl _ _).alloc (Nat.le_refl _) _)⟩
theorem gotP_early {V v3 : World} {acc : List Int} {N b g5 cap5 n : Nat} (hn : acc.length = n) (hb : Below V.heap.size V v3) (k : Bk v3 b 182 #[.slice none 0 0, .int .u64 0, .int .u64 0]) (hVb : V.heap.size ≤ b) (hg : V.heap.size ≤ g5) (ha : AccAt v3 g5 acc) :
    GotP V acc N (.pointer (some ⟨b, 0, none⟩)) (((v3.setCell ⟨b, 0, none⟩ (.slice (some ⟨g5, 0, none⟩) n cap5)).setCell ⟨b, 1, none⟩ (.int .u64 (N : Nat))).setCell ⟨b, 2, none⟩ (.int .u64 0)) := by
  subst hn
  have kF : Bk (((v3.setCell ⟨b, 0, none⟩ (.slice (some ⟨g5, 0, none⟩) acc.length cap5)).setCell ⟨b, 1, none⟩ (.int .u64 (N : Nat))).setCell ⟨b, 2, none⟩ (.int .u64 0)) b 182 #[.slice (some ⟨g5, 0, none⟩) acc.length cap5, .int .u64 (N : Nat), .int .u64 0] := by
    have a5 := ((k.set 0 (.slice (some ⟨g5, 0, none⟩) acc.length cap5)).set 1 (.int .u64 (N : Nat))).set 2 (.int .u64 0)
    simpa using a5
  obtain ⟨cs, hbk, hx⟩ := ha
  have hne : g5 ≠ b := fun e => by
    subst e
    unfold Bk at hbk k
    rw [k] at hbk
    injection hbk with hbk
    injection hbk with _ hbk
    cases hbk
  refine ⟨b, g5, cap5, rfl, ((hb.setCell (p := ⟨b, 0, none⟩) (show V.heap.size ≤ b from hVb) _).setCell (p := ⟨b, 1, none⟩) (show V.heap.size ≤ b from hVb) _).setCell (p := ⟨b, 2, none⟩) (show V.heap.size ≤ b from hVb) _, hVb, hg, kF, cs, ?_, hx⟩
  exact (Below.heap_setCell _ ⟨b, 2, none⟩ _ g5 hne).trans ((Below.heap_setCell _ ⟨b, 1, none⟩ _ g5 hne).trans ((Below.heap_setCell _ ⟨b, 0, none⟩ _ g5 hne).trans hbk))
theorem acc_of {w : World} {base g cap : Nat} {v : List Int} (h : w.ownsRow base 3 1 (.slice (some ⟨g, 0, none⟩) v.length cap) v.length (ints v)) (h0 : 0 < v.length) : AccAt w g v := (nums_of h).2 h0
theorem ofrom_any (h : PgH) (L : Pg) (hL : progB L = true) (SP : PgS L) : ∀ (m : Nat) (f : Nat → Nat) (acc : List Int) (ga c : Nat) (w : World) (B : Nat), PgR w B h L → B ≤ w.heap.size → Inv L f → AccAt w ga acc → slack L f ≤ m → acc.length + m ≤ 100 → m ≤ 9 →
    Calls Try.prog 171 #[PgV h L, .agg #[.slice (some ⟨ga, 0, none⟩) acc.length c, .int .u64 (enc WS f : Nat), .int .u64 0], .bool false] w (OrdA w ga (ordP L m f acc)) := by
  obtain ⟨h31, h32⟩ := prog_len hL
  intro m
  induction m with
  | zero =>
    intro f acc ga c w B hP hB I hA hs hl hm9
    exact ofrom_end h L hL f acc ga c w I hA (slack_end hL I (by omega))
  | succ m ih =>
    intro f acc ga c w B hP hB I hA hs hl hm9
    by_cases he : endB L f = true
    · have e : ordP L (m + 1) f acc = [acc] := by unfold ordP; rw [if_pos he]
      rw [e]
      exact ofrom_end h L hL f acc ga c w I hA he
    · rw [Bool.not_eq_true] at he
      have e : ordP L (m + 1) f acc = ordK L m f acc L.length := by unfold ordP ordK; rw [he]; rfl
      rw [e]
      clear e
      obtain ⟨W, hW⟩ : ∃ W, W = (w.alloc (.cells #[.slice h.A L.length h.c] 30)).alloc (.cells #[.slice (some ⟨ga, 0, none⟩) acc.length c, .int .u64 (enc WS f : Nat), .int .u64 0] 182) := ⟨_, rfl⟩
      have bW : Below w.heap.size w W := by rw [hW]; go_grown
      have sW : W.heap.size = w.heap.size + 1 + 1 := by rw [hW]; simp
      have k0 : Bk W w.heap.size 30 #[.slice h.A L.length h.c] := by rw [hW]; exact (Bk.new w _ _).alloc _
      have k1 : Bk W (w.heap.size + 1) 182 #[.slice (some ⟨ga, 0, none⟩) acc.length c, .int .u64 (enc WS f : Nat), .int .u64 0] := by
        rw [hW]; have := Bk.new (w.alloc (.cells #[.slice h.A L.length h.c] 30)) #[.slice (some ⟨ga, 0, none⟩) acc.length c, .int .u64 (enc WS f : Nat), .int .u64 0] 182
        rwa [World.size_alloc] at this
      have BW := Lib.hid bW
      have HW := Lib.hid hW
      have K0 := Lib.hid k0
      have K1 := Lib.hid k1
      have HE := Lib.hid he
      have HA := Lib.hid (hA.below bW)
      have HP := Lib.hid (hP.below bW hB)
      have c0 := k0.cell 0
      have c1 := k1.cell 1
      have l0 := k0.lt
      have l1 := k1.lt
      have hga := hA.lt
      have hsz := bW.size
      simp at c1
      clear hW bW k0 k1 he hA hP
      have sWa := Nat.le_of_eq sW
      have sWb := Nat.le_of_eq sW.symm
      clear sW
      obtain ⟨i1, hi1, jz0, jz1, jz2⟩ := info_parts Try.info51
      go_enter Try.func171, Try.ntmps171
      go_wp2_with fail
      rw [← HW.out]
      go_wp2_with fail
      refine (isend_any h L f W hL I false HE).mono ?_
      rintro e w1 ⟨rfl, hb1⟩
      have k0 := K0.out.below hb1 l0
      have k1 := K1.out.below hb1 l1
      have d0 := k0.cell 0
      have d2 := k1.cell 2
      have m0 := k0.lt
      have m1 := k1.lt
      have B1 := Lib.hid (below_on BW.out hb1)
      have HB1 := Lib.hid hb1
      have start := Lib.hid (show OrdL w1 (w1.alloc (.cells #[] 51)) (.slice (some ⟨w1.heap.size, 0, none⟩) 0 0) (ordK L m f acc 0) from
        ⟨w1.heap.size, 0, fun _ => 0, fun _ => 0, rfl, Nat.le_refl _, World.ownsRow_made w1 #[] 0 (Nat.le_refl _) (by decide) (by simp), RowsI.nil _ _ _ _, (Below.refl _ _).alloc (Nat.le_refl _) _⟩)
      have hs1 := hb1.size
      simp at d2
      clear hb1 k0 k1 c0 c1
      go_wp2_with fail
      clear d0 d2
      go_loopw [7, 8, 24] (fun o v8 i wr => ∃ t : Nat, t ≤ L.length ∧ i = .int .i64 t ∧ v8 = .int .u64 0 ∧ OrdL w1 wr o (ordK L m f acc t)) (fun _ _ i _ => L.length - (intOf i).toNat)
      case atStart => exact ⟨0, Nat.zero_le _, rfl, rfl, start.out⟩
      case round =>
        obtain ⟨t, htl, rfl, rfl, hol⟩ := hrel
        clear start
        have HOL := Lib.hid hol
        have hbel : Below w1.heap.size w1 wr := by obtain ⟨_, _, _, _, _, _, _, _, hb⟩ := hol; exact hb
        have HBW := Lib.hid (below_on HB1.out hbel)
        have hz := hbel.size
        have HBr := Lib.hid hbel
        clear hol hbel
        by_cases hlt : t < L.length
        · have hi1' : (t : Int) < (L.length : Int) := by omega
          have k0 := K0.out.below HBW.out l0
          have k1 := K1.out.below HBW.out l1
          have e0 := k0.cell 0
          have e1 := k1.cell 1
          have n0 := k0.lt
          have n1 := k1.lt
          simp at e1
          clear k0 k1
          rcases Bool.eq_false_or_eq_true (goB L f (t : Int)) with hg | hg
          · have HAB := Lib.hid ((able_bits I (t : Int)).trans hg)
            obtain ⟨t', htt, ht', hc⟩ := goB_parts hg
            have htt : t = t' := by omega
            subst htt
            have Hn := Lib.hid (show ordK L m f acc (t + 1) = ordK L m f acc t ++ ordP L m (stepF L f t) (acc ++ [(t : Int)]) by rw [ordK_succ, if_pos hg])
            have HC := Lib.hid hc
            clear hg hc
            go_wp2_with fail
            refine (able_any h L f (t : Int) wr I.good.ok h31 h32 true HAB).mono ?_
            rintro e w2 ⟨rfl, hb2⟩
            have k0 := K0.out.below (below_on HBW.out hb2) l0
            have k1 := K1.out.below (below_on HBW.out hb2) l1
            have q0 := k0.cell 0
            have p0 := k1.cell 0
            have p1 := k1.cell 1
            have r0 := k0.lt
            have r1 := k1.lt
            simp at p0 p1
            have hz2 := hb2.size
            have HB2 := Lib.hid hb2
            clear hb2 k0 k1 e0 e1
            have hbit : Hid ((0 : Nat).testBit t = false) := Lib.hid (by simp)
            go_wp2_with fail
            refine (hasbit_any 0 t w2 (by omega) (by omega) false hbit).mono ?_
            rintro e w2' ⟨rfl, rfl⟩
            go_wp2_with fail
            have HP2 := Lib.hid (HP.out.below (below_on HBW.out HB2.out) (by omega))
            have AV := Lib.hid (show Vs w2 w2.heap.size (some ⟨ga, 0, none⟩) (ints acc) from (HA.out.below (below_on HBW.out HB2.out)).vs)
            have AllS := Lib.hid (show ∀ w', Below w2.heap.size w2 w' → (Below w2.heap.size w2 w' ∧ w'.cell? ⟨w.heap.size, 0, none⟩ = some (.slice h.A L.length h.c) ∧ w'.cell? ⟨w.heap.size + 1, 0, none⟩ = some (.slice (some ⟨ga, 0, none⟩) acc.length c) ∧ w'.cell? ⟨w.heap.size + 1, 1, none⟩ = some (.int .u64 (enc WS f : Nat))) from fun w' hb => ⟨hb, (hb.cell (p := ⟨w.heap.size, 0, none⟩) r0).trans q0, (hb.cell (p := ⟨w.heap.size + 1, 0, none⟩) r1).trans p0, (hb.cell (p := ⟨w.heap.size + 1, 1, none⟩) r1).trans p1⟩)
            go_cut [10] (fun sa wx => GotP w2 (acc ++ [(t : Int)]) (enc WS (stepF L f t)) sa wx)
            case first =>
              go_region_held3 (fun w' => Below w2.heap.size w2 w' ∧ w'.cell? ⟨w.heap.size, 0, none⟩ = some (.slice h.A L.length h.c) ∧ w'.cell? ⟨w.heap.size + 1, 0, none⟩ = some (.slice (some ⟨ga, 0, none⟩) acc.length c) ∧ w'.cell? ⟨w.heap.size + 1, 1, none⟩ = some (.int .u64 (enc WS f : Nat))) (first | (go_split_ands; exact AllS.out _ (by go_grown)) | (exact AllS.out _ (by go_grown))) (first | (go_at_call 177; go_split_ands; refine (extended_any ga 0 c acc (t : Int) _ w2.heap.size (AV.out.below (show Below w2.heap.size w2 _ from by go_grown) (Nat.le_refl _)) (show Below w2.heap.size w2 _ from by go_grown).size (by omega)).mono ?_; rintro e v1 ⟨g5, cap5, rfl, hv1, hg5, ov1⟩; obtain ⟨hcc1, hff1⟩ := bcell hv1; have A5 := Lib.hid (acc_of ov1 (by simp)); have hgx : w2.heap.size ≤ g5 := Nat.le_trans (show Below w2.heap.size w2 _ from by go_grown).size hg5; clear ov1; have hBv1 : Below w2.heap.size w2 v1 := below_on (by go_grown) hv1; have hzv1 := hv1.size; (try simp at hzv1); have hy1 := hBv1.size; (try (have hsv1 : w2.heap.size < v1.heap.size := (by omega))); have kv1 := Lib.hid hv1; clear hv1) | (go_at_call 127; go_split_ands; refine (stepped_any h L f t _ B (HP2.out.below (show Below w2.heap.size w2 _ from by go_grown) (by omega)) (Nat.le_trans (by omega) (show Below w2.heap.size w2 _ from by go_grown).size) hL I.good hlt HC.out I.chan).mono ?_; rintro e v2 ⟨rfl, hv2⟩; obtain ⟨hcc2, hff2⟩ := bcell hv2; have hBv2 : Below w2.heap.size w2 v2 := below_on (by go_grown) hv2; have hzv2 := hv2.size; (try simp at hzv2); have hy2 := hBv2.size; (try (have hsv2 : w2.heap.size < v2.heap.size := (by omega))); (try (have hsk1_2 : v1.heap.size < v2.heap.size := (by omega))); have hk1_2 : Below v1.heap.size v1 v2 := below_on (by go_grown) hv2; have kv2 := Lib.hid hv2; clear hv2) | (go_at_call 178; go_split_ands; refine (sleep_any h L f t _ B (HP2.out.below (show Below w2.heap.size w2 _ from by go_grown) (by omega)) (Nat.le_trans (by omega) (show Below w2.heap.size w2 _ from by go_grown).size) hL I hlt HC.out).mono ?_; rintro e v3 ⟨rfl, hv3⟩; obtain ⟨hcc3, hff3⟩ := bcell hv3; have hBv3 : Below w2.heap.size w2 v3 := below_on (by go_grown) hv3; have hzv3 := hv3.size; (try simp at hzv3); have hy3 := hBv3.size; (try (have hsv3 : w2.heap.size < v3.heap.size := (by omega))); (try (have hsk1_3 : v1.heap.size < v3.heap.size := (by omega))); (try (have hsk2_3 : v2.heap.size < v3.heap.size := (by omega))); have hk1_3 : Below v1.heap.size v1 v3 := below_on (by go_grown) hv3; have kv3 := Lib.hid hv3; clear hv3))
              all_goals go_wp2_with fail
              all_goals go_meet
              · exact gotP_late (by simp) hBv3 hgx (A5.out.below hk1_3)
              · exact gotP_early (by simp) hBv3 ((Bk.new v2 #[.slice none 0 0, .int .u64 0, .int .u64 0] 182).below kv3.out (by simp)) hBv2.size hgx (A5.out.below hk1_3)
              · exact gotP_early (by simp) hBv3 (((Bk.new v1 #[.slice none 0 0, .int .u64 0, .int .u64 0] 182).below kv2.out (by simp)).below kv3.out (by omega)) hBv1.size hgx (A5.out.below hk1_3)
              · exact gotP_early (by simp) hBv3 ((((bk_drew (Bk.new w2 #[.slice none 0 0, .int .u64 0, .int .u64 0] 182)).below kv1.out (by show _ < (World.alloc _ _).heap.size; simp)).below kv2.out (by omega)).below kv3.out (by omega)) (Nat.le_refl _) hgx (A5.out.below hk1_3)
            clear AllS
            obtain ⟨b, g5, cap5, rfl, hby, hbb, hg5, kb, a5⟩ := hcut
            obtain ⟨y, rfl⟩ : ∃ V, V = wc := ⟨_, rfl⟩
            have y0 := (hby.cell (p := ⟨w.heap.size, 0, none⟩) r0).trans q0
            have z0 := kb.cell 0
            have z1 := kb.cell 1
            have z2 := kb.cell 2
            have lb := kb.lt
            have hys := hby.size
            simp at z0 z1 z2
            have HBY := Lib.hid (below_on HB2.out hby)
            have hih := ih (stepF L f t) (acc ++ [(t : Int)]) g5 cap5 y B (HP2.out.below hby (by omega)) (by omega) (inv_step hL I hlt HC.out) a5 (by have := slack_step hL I hlt HC.out; omega) (by simp; omega) (by omega)
            have hB2' := hbb
            clear q0 p0 p1 kb hby a5
            rw [show (acc ++ [(t : Int)]).length = acc.length + 1 by simp] at hih
            obtain ⟨Ls, hLs⟩ : ∃ Ls, ordK L m f acc t = Ls := ⟨_, rfl⟩
            obtain ⟨Ms, hMs⟩ : ∃ Ms, ordP L m (stepF L f t) (acc ++ [(t : Int)]) = Ms := ⟨_, rfl⟩
            have n1l := ordK_len h32 m f acc t
            have n2l := ordP_len h32 m (stepF L f t) (acc ++ [(t : Int)])
            have n3l : 3 ^ m ≤ 3 ^ 9 := Nat.pow_le_pow_right (by omega) (by omega)
            have n4l : t * 3 ^ m ≤ 3 * 3 ^ 9 := Nat.mul_le_mul (by omega) n3l
            have hn := Hn.out
            rw [hLs, hMs] at hn
            have HN := Lib.hid hn
            obtain ⟨g, cap, D, C, ee, hg, hown, hrows, hbel⟩ := HOL.out
            rw [hLs] at hown hrows n1l ee
            rw [hMs] at hih n2l
            have hl1 : Ls.length ≤ 60000 := by omega
            have hl2 : Ms.length ≤ 20000 := by omega
            have HO := Lib.hid hown
            have HR := Lib.hid hrows
            have HBL := Lib.hid hbel
            clear hn hLs hMs n1l n2l n3l n4l hown hrows hbel Hn HOL
            subst ee
            go_wp2_with fail
            refine hih.mono ?_
            clear hih y0 z0 z1 z2
            rintro e w5 ⟨g6, cap6, D2, C2, rfl, hb5, hg6, ho6, hr6⟩
            have B5 := Lib.hid (below_on HBY.out hb5)
            have O5 := Lib.hid (HO.out.kept (grown_of_below (below_on HBY.out hb5) none) (by simp [Value.ownBlock]))
            have R5 := Lib.hid (HR.out.keep (w' := w5) (Nat.le_refl _) (Nat.le_refl _) fun i _ _ h2 _ => (below_on HBY.out hb5).block i h2)
            have HR6 := Lib.hid hr6
            have HNW := Lib.hid (heads_news (vs := headsC Ms D2 C2) (by rw [headsC_length]; exact ho6))
            have hz5 := hb5.size
            clear hb5 hr6 ho6
            go_wp2_with (at_builtin; refine wpList_append_own _ rfl (.tmp 54) (.tmp 58) 38 rfl w1.heap.size 51 i1 _ 1 24 Try.underlying38 hi1 jz0 jz1 jz2 rfl (by decide) _ Ls.length (headsC Ls D C) rfl O5.out ⟨g6, 0, none⟩ Ms.length cap6 (headsC Ms D2 C2) rfl (by rw [headsC_length]; omega) HNW.out (heads_one _ _ _) (by unfold maxLen; omega) (by omega) (by omega) ?_; intro v7 w7 own7 grow7 hiff; obtain ⟨g7, cap7, rfl, hg7, ho7⟩ := own_form1 own7 hiff (fun hh => absurd (show Value.slice (some ⟨g, 0, none⟩) Ls.length cap = Value.slice none 0 0 from hh) (by simp)); have O7 := Lib.hid ho7; have G7 := Lib.hid grow7; clear own7 grow7 hiff ho7)
            have Fin := Lib.hid (show OrdL w1 w7 (.slice (some ⟨g7, 0, none⟩) (Ls.length + Ms.length) cap7) (ordK L m f acc (t + 1)) from by
              rw [HN.out]
              exact ordL_next (below_on HBL.out B5.out) R5.out (by omega) (by have := HBL.out.size; omega) HR6.out (by omega) O5.out G7.out hg7 O7.out)
            go_roundw
            case rel => exact ⟨t + 1, by omega, by go_num, rfl, Fin.out⟩
            case measure => simp [intOf]; omega
          · have HAB := Lib.hid ((able_bits I (t : Int)).trans hg)
            have Hn := Lib.hid (show ordK L m f acc (t + 1) = ordK L m f acc t by rw [ordK_succ, hg]; simp)
            clear hg
            go_wp2_with fail
            refine (able_any h L f (t : Int) wr I.good.ok h31 h32 false HAB).mono ?_
            rintro e w2 ⟨rfl, hb2⟩
            have Fin := Lib.hid (show OrdL w1 w2 _ (ordK L m f acc (t + 1)) from by
              rw [Hn.out]
              obtain ⟨g, cap, D, C, ee, hg, hown, hrows, hbel⟩ := HOL.out
              exact ⟨g, cap, D, C, ee, hg, hown.kept (grown_of_below hb2 none) (by simp [Value.ownBlock]), hrows.keep (Nat.le_refl _) hb2.size fun i _ _ h2 _ => hb2.block i h2, below_on hbel hb2⟩)
            clear hb2 e0 e1
            go_wp2
            go_roundw
            case rel => exact ⟨t + 1, by omega, by go_num, rfl, Fin.out⟩
            case measure => simp [intOf]; omega
        · have hkl : t = L.length := by omega
          subst hkl
          obtain ⟨g, cap, D, C, rfl, hg, hown, hrows, hbel⟩ := HOL.out
          have Fin := Lib.hid (show OrdA w ga (ordK L m f acc L.length) (.returned (.slice (some ⟨g, 0, none⟩) (ordK L m f acc L.length).length cap)) wr from
            ⟨g, cap, D, C, rfl, below_on BW.out HBW.out, by omega, Joins.ownsRow_le hown (by omega), hrows.keep (by omega) (Nat.le_refl _) fun _ _ _ _ _ => rfl⟩)
          clear hown hrows hbel HOL
          go_wp2
          go_ret
          exact Fin.out
end Go.Proofs.Ytakadejpgndhpaa
