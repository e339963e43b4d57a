/-
  What the program's LockPairs comes to.
-/
import Derived.Test.YtiljakbjbiinkaaRchd
import Derived.Deep.RegionHeld3
import Derived.Test.YtiljakbjbiinkaaStfP
import Derived.Test.YtiljakbjbiinkaaIBef
import Derived.BigRegion
namespace Go.Proofs.Ytiljakbjbiinkaa
open Go.RowKit Pl
set_option maxHeartbeats 4000000
set_option maxRecDepth 100000
set_option linter.unusedVariables false

/-- A word, and a thread that goes on there. -/
structure Mv where
  f : Nat → Nat
  t : Nat
def Mv.cells (m : Mv) : List Value := [.int .u64 ((enc WS m.f : Nat) : Int), .int .i64 (m.t : Int)]
def mvs (l : List Mv) : List Value := l.flatMap Mv.cells
theorem mvs_length (l : List Mv) : (mvs l).length = l.length * 2 := by
  induction l with
  | nil => rfl
  | cons m l ih => simp only [mvs, List.flatMap_cons, List.length_append, List.length_cons] at ih ⊢; rw [ih]; simp [Mv.cells]; omega
theorem mvs_snoc (l : List Mv) (m : Mv) : mvs (l ++ [m]) = mvs l ++ m.cells := by simp [mvs]
theorem mvs_at : ∀ {l : List Mv} {k : Nat} {m : Mv}, l[k]? = some m → (mvs l)[k * 2]? = some (.int .u64 ((enc WS m.f : Nat) : Int)) ∧ (mvs l)[k * 2 + 1]? = some (.int .i64 (m.t : Int))
  | a :: l, 0, m, h => by
    rw [List.getElem?_cons_zero] at h
    injection h with h
    subst h
    exact ⟨rfl, rfl⟩
  | a :: l, k + 1, m, h => by
    rw [List.getElem?_cons_succ] at h
    obtain ⟨h1, h2⟩ := mvs_at h
    have e : mvs (a :: l) = a.cells ++ mvs l := by simp [mvs]
    have ec : a.cells.length = 2 := rfl
    rw [e, List.getElem?_append_right (by omega), List.getElem?_append_right (by omega), ec]
    exact ⟨by rw [show (k + 1) * 2 - 2 = k * 2 by omega]; exact h1, by rw [show (k + 1) * 2 + 1 - 2 = k * 2 + 1 by omega]; exact h2⟩
theorem Try.info156 : (Try.prog.info? 156).map (fun i => (i.zero, i.size, i.bytes)) = some (some (.agg #[.int .u64 0, .int .i64 0]), 2, 16) := by kernel_rfl
theorem mv_new (w : World) (m : Mv) : ∀ j u, m.cells[j]? = some u → (w.alloc (.cells #[.int .u64 ((enc WS m.f : Nat) : Int), .int .i64 (m.t : Int)] 156)).cell? ((⟨w.heap.size, 0, none⟩ : Addr).add j) = some u :=
  World.news_of_block (heap_alloc_new w _)
theorem mv_one (m : Mv) : ∀ u ∈ m.cells, u.oneCell' = true := by
  intro u hu
  simp [Mv.cells] at hu
  rcases hu with rfl | rfl <;> rfl
/-- Of one word, by threads below k; of many words. -/
def mvK (L : Pg) (f : Nat → Nat) (k : Nat) : List Mv := (List.range k).flatMap fun (t : Nat) => if goB L f (t : Int) then [⟨f, t⟩] else []
theorem mvK_next (L : Pg) (f : Nat → Nat) (k : Nat) : mvK L f (k + 1) = mvK L f k ++ if goB L f (k : Int) then [⟨f, k⟩] else [] := by
  unfold mvK
  rw [List.range_succ, List.flatMap_append]
  simp
theorem mvK_len (L : Pg) (f : Nat → Nat) : ∀ k, (mvK L f k).length ≤ k
  | 0 => by simp [mvK]
  | k + 1 => by
    have := mvK_len L f k
    rw [mvK_next, List.length_append]
    split
    · simp; omega
    · simp; omega
def mvA (L : Pg) (fs : List (Nat → Nat)) : List Mv := fs.flatMap fun f => mvK L f L.length
theorem mvA_take {L : Pg} {fs : List (Nat → Nat)} {k : Nat} {f : Nat → Nat} (h : fs[k]? = some f) : mvA L (fs.take (k + 1)) = mvA L (fs.take k) ++ mvK L f L.length := by
  rw [List.take_add_one, h]
  unfold mvA
  rw [List.flatMap_append]
  simp
theorem mvA_len {L : Pg} (h3 : L.length ≤ 3) : ∀ (fs : List (Nat → Nat)), (mvA L fs).length ≤ 3 * fs.length
  | [] => by simp [mvA]
  | f :: fs => by
    have h1 := mvA_len h3 fs
    have h2 := mvK_len L f L.length
    unfold mvA at h1 ⊢
    rw [List.flatMap_cons, List.length_append, List.length_cons]
    omega
theorem mvA_mem {L : Pg} {fs : List (Nat → Nat)} {m : Mv} : m ∈ mvA L fs ↔ m.f ∈ fs ∧ m.t < L.length ∧ goB L m.f (m.t : Int) = true := by
  unfold mvA mvK
  rw [List.mem_flatMap]
  constructor
  · rintro ⟨f, hf, hm⟩
    rw [List.mem_flatMap] at hm
    obtain ⟨t, ht, hm⟩ := hm
    have ht := List.mem_range.1 ht
    by_cases hg : goB L f (t : Int) = true
    · rw [if_pos hg, List.mem_singleton] at hm
      rw [hm]; exact ⟨hf, ht, hg⟩
    · rw [if_neg hg] at hm; exact absurd hm List.not_mem_nil
  · rintro ⟨hf, ht, hg⟩
    refine ⟨m.f, hf, List.mem_flatMap.2 ⟨m.t, List.mem_range.2 ht, ?_⟩⟩
    rw [if_pos hg]
    exact List.mem_singleton.2 rfl
/-- All ways in which a statement is done, in memory of the call's own. -/
def MvP (L : Pg) (w : World) (e : Ending) (w' : World) : Prop :=
  ∃ ms : List Mv, (∀ m : Mv, m ∈ ms ↔ Rch L m.f ∧ m.t < L.length ∧ goB L m.f (m.t : Int) = true) ∧ ms.length ≤ 177147 ∧ ∃ g cap, e = .returned (.slice (some ⟨g, 0, none⟩) ms.length cap) ∧ w.heap.size ≤ g ∧ Below w.heap.size w w' ∧ w'.ownsRow w.heap.size 156 2 (.slice (some ⟨g, 0, none⟩) ms.length cap) ms.length (mvs ms)
theorem mv_apart {w : World} {g2 base g n cap m : Nat} {l : List Nat} {xs : List Value} (hx : WdsAt w g2 l) (ho : w.ownsRow base 156 2 (.slice (some ⟨g, 0, none⟩) n cap) m xs) : g2 ≠ g := by
  rintro rfl
  obtain ⟨cs, hb, -⟩ := hx
  obtain ⟨-, -, cur, hc⟩ := owns_block ho (q := g2) rfl
  have := hb.symm.trans hc
  injection this with this
  injection this with _ h2 _
  cases h2
theorem wds_grown {X w5 : World} {g2 : Nat} {l : List Nat} {row : Option Nat} (h : WdsAt X g2 l) (hg : X.grownBy w5 row) (hne : some g2 ≠ row) : WdsAt w5 g2 l := by
  obtain ⟨cs, hb, hx⟩ := h
  exact ⟨cs, (hg.block g2 hb.lt hne).trans hb, hx⟩
def mvT (T : List Mv) (L : Pg) (f : Nat → Nat) (t : Nat) : List Mv := T ++ mvK L f t
theorem mvT_zero (T : List Mv) (L : Pg) (f : Nat → Nat) : mvT T L f 0 = T := List.append_nil T
theorem mvT_len (T : List Mv) (L : Pg) (f : Nat → Nat) (t : Nat) : (mvT T L f t).length ≤ T.length + t := by
  have := mvK_len L f t
  unfold mvT
  rw [List.length_append]; omega
theorem mvT_yes {T : List Mv} {L : Pg} {f : Nat → Nat} {t : Nat} (hg : goB L f (t : Int) = true) : mvT T L f (t + 1) = mvT T L f t ++ [⟨f, t⟩] := by
  unfold mvT
  rw [mvK_next, if_pos hg, List.append_assoc]
theorem mvT_no {T : List Mv} {L : Pg} {f : Nat → Nat} {t : Nat} (hg : goB L f (t : Int) = false) : mvT T L f (t + 1) = mvT T L f t := by
  unfold mvT
  rw [mvK_next, if_neg (by rw [hg]; simp), List.append_nil]
theorem movesof_any (h : PgH) (L : Pg) (w : World) (B : Nat) (hP : PgR w B h L) (hB : B ≤ w.heap.size) (hL : progB L = true) :
    Calls Try.prog 123 #[PgV h L] w (MvP L w) := by
  obtain ⟨h31, h32⟩ := prog_len hL
  obtain ⟨i0, hi, iz0, iz1, iz2⟩ := info_parts Try.info156
  obtain ⟨W, hW⟩ : ∃ W, W = (w.alloc (.cells #[.slice h.A L.length h.c] 30)).alloc (.cells #[] 156) := ⟨_, rfl⟩
  have bW : Below w.heap.size w W := by rw [hW]; go_grown
  have sW : W.heap.size = w.heap.size + 1 + 1 := by rw [hW]; simp
  have k0 : Bk W w.heap.size 30 #[.slice h.A L.length h.c] := by rw [hW]; exact (Bk.new w _ _).alloc _
  have o0 : W.ownsRow (w.heap.size + 1) 156 2 (.slice (some ⟨w.heap.size + 1, 0, none⟩) 0 0) 0 (mvs []) := by
    rw [hW]
    have := World.ownsRow_made (w.alloc (.cells #[.slice h.A L.length h.c] 30)) (base := w.heap.size + 1) (size := 2) (e := 156) #[] 0 (by simp) (by decide) (by simp)
    simpa [mvs] using this
  obtain ⟨M, hM⟩ : ∃ M, M = w.heap.size + 1 := ⟨_, rfl⟩
  rw [← hM] at o0
  have P0 := Lib.hid (hP.below bW hB)
  have K0 := Lib.hid k0
  have O0 := Lib.hid o0
  have B0 := Lib.hid bW
  have z0 := bW.size
  have HW := Lib.hid hW
  have sWa := Nat.le_of_eq sW
  have sWb := Nat.le_of_eq sW.symm
  have hMa := Nat.le_of_eq hM
  have hMb := Nat.le_of_eq hM.symm
  have cb0 : W.cell? ⟨w.heap.size, 0, none⟩ = some (.slice h.A L.length h.c) := k0.cell 0
  have lb0 := k0.lt
  clear hW bW k0 hP sW o0
  go_enter Try.func123, Try.ntmps123
  go_wp2_with fail
  rw [← HW.out]
  go_wp2_with fail
  rw [← hM]
  refine (reached_any h L W B P0.out (by omega) hL).mono ?_
  rintro e w2 ⟨l, hl, g2, cap2, rfl, hg2, hb2, ho2⟩
  obtain ⟨fs, hfs, hrf⟩ := reach_fs hl
  have hfl : fs.length = l.length := by rw [← hfs, List.length_map]
  have B2 := Lib.hid (below_on B0.out hb2)
  have K2 := Lib.hid (K0.out.below hb2 K0.out.lt)
  have P2 := Lib.hid (P0.out.below hb2 (by omega))
  have X2 := Lib.hid (wds_of ho2)
  have O2 := Lib.hid (own_keep (w' := w2) O0.out (hb2.block M (own_blk O0.out)))
  have HL2 := Lib.hid hl
  have HF := Lib.hid hfs
  have HRF := Lib.hid hrf
  have HFL := Lib.hid hfl
  have z2 := hb2.size
  have n2 := hl.len
  clear hb2 ho2 cb0 hl hfs hrf hfl hM
  go_wp2
  go_loopw [3, 11] (fun ov iv wr => ∃ k g cap : Nat, k ≤ l.length ∧ iv = .int .i64 k ∧ ov = .slice (some ⟨g, 0, none⟩) (mvA L (fs.take k)).length cap ∧ M ≤ g ∧ wr.ownsRow M 156 2 (.slice (some ⟨g, 0, none⟩) (mvA L (fs.take k)).length cap) (mvA L (fs.take k)).length (mvs (mvA L (fs.take k))) ∧ Below M w2 wr ∧ WdsAt wr g2 l) (fun _ iv _ => l.length - (intOf iv).toNat)
  case atStart => exact ⟨0, M, 0, Nat.zero_le _, rfl, rfl, Nat.le_refl _, O2.out, Below.refl _ _, X2.out⟩
  case round =>
    obtain ⟨k, g, cap, hk, rfl, rfl, hgg, hown, hbel, hX⟩ := hrel
    have hz := hbel.size
    have hlen := mvA_len h32 (fs.take k)
    rw [List.length_take] at hlen
    have hfl := HFL.out
    have hlen2 : (mvA L (fs.take k)).length ≤ 3 * 59049 := by omega
    clear hfl hlen
    have hzM : M ≤ wr.heap.size := by omega
    have K0r := Lib.hid (K2.out.below hbel (by omega))
    have cb : wr.cell? ⟨w.heap.size, 0, none⟩ = some (.slice h.A L.length h.c) := K0r.out.cell 0
    have lb := K0r.out.lt
    by_cases hlt : k < l.length
    · have hi1 : (k : Int) < (l.length : Int) := by omega
      obtain ⟨x, hx, -, cx0⟩ := hX.at_ hlt
      obtain ⟨f, hf, hxe⟩ : ∃ f, fs[k]? = some f ∧ x = enc WS f := by
        rw [← HF.out, List.getElem?_map, Option.map_eq_some_iff] at hx
        obtain ⟨f, h1, h2⟩ := hx
        exact ⟨f, h1, h2.symm⟩
      have cy := congrArg (fun (n : Nat) => some (Value.int .u64 (n : Int))) hxe
      have cx := cx0.trans cy
      have HR := Lib.hid ((HRF.out f (List.mem_of_getElem? hf)).inv hL)
      have EK := Lib.hid (mvA_take (L := L) hf)
      have hgl := hX.lt
      generalize mvA L (fs.take k) = T at hown hlen2 EK ⊢
      clear cy cx0 hx hxe hf
      have T0 := Lib.hid (show wr.ownsRow M 156 2 (.slice (some ⟨g, 0, none⟩) (mvT T L f 0).length cap) (mvT T L f 0).length (mvs (mvT T L f 0)) by rw [mvT_zero]; exact hown)
      have hTl : (mvT T L f 0).length = T.length := by rw [mvT_zero]
      have HTl := Lib.hid hTl
      have HBel := Lib.hid hbel
      have HX0 := Lib.hid hX
      clear hown hbel hX hTl
      go_wp2_with fail
      rw [← HTl.out]
      obtain ⟨wo, rfl⟩ : ∃ wo : World, wo = wr := ⟨_, rfl⟩
      clear cb cx
      go_loopw [3, 18] (fun ov iv w3 => ∃ t g cap : Nat, t ≤ L.length ∧ iv = .int .i64 t ∧ ov = .slice (some ⟨g, 0, none⟩) (mvT T L f t).length cap ∧ M ≤ g ∧ w3.ownsRow M 156 2 (.slice (some ⟨g, 0, none⟩) (mvT T L f t).length cap) (mvT T L f t).length (mvs (mvT T L f t)) ∧ Below M w2 w3 ∧ WdsAt w3 g2 l) (fun _ iv _ => L.length - (intOf iv).toNat)
      case atStart => exact ⟨0, g, cap, Nat.zero_le _, rfl, rfl, hgg, T0.out, HBel.out, HX0.out⟩
      case round =>
        obtain ⟨t, ga, ca, ht, rfl, rfl, hgg, hown, hbel, hX⟩ := hrel
        have hg2g := mv_apart hX hown
        have hzr := hbel.size
        have hll := mvT_len T L f t
        have hsum : (mvT T L f t).length ≤ 3 * 59049 + 3 := by omega
        have hzM3 : M ≤ wr.heap.size := by omega
        have K3 := Lib.hid (K2.out.below hbel (by omega))
        have cb : wr.cell? ⟨w.heap.size, 0, none⟩ = some (.slice h.A L.length h.c) := K3.out.cell 0
        have lb3 := K3.out.lt
        clear hll
        by_cases htl : t < L.length
        · have hi2 : (t : Int) < (L.length : Int) := by omega
          have PR := Lib.hid (P2.out.below hbel (by omega))
          have Hown := Lib.hid hown
          have Hb := Lib.hid hbel
          have HX1 := Lib.hid hX
          clear hown hbel hX
          rcases Bool.eq_false_or_eq_true (goB L f (t : Int)) with hg | hg
          · have HA := Lib.hid ((able_bits HR.out (t : Int)).trans hg)
            have e1 := mvT_yes (T := T) hg
            have EN := Lib.hid (show mvs (mvT T L f (t + 1)) = mvs (mvT T L f t) ++ Mv.cells ⟨f, t⟩ by rw [e1, mvs_snoc])
            have EL := Lib.hid (show (mvT T L f (t + 1)).length = (mvT T L f t).length + 1 by rw [e1]; simp)
            clear hg e1
            go_wp2_with fail
            refine (able_any h L f (t : Int) wr HR.out.good.ok h31 h32 true HA).mono ?_
            rintro e w3 ⟨rfl, hb3⟩
            have H3 := Lib.hid (Hb.out.trans (hb3.mono hzM3))
            have O3 := Lib.hid (own_keep (w' := w3) Hown.out (hb3.block ga (own_blk Hown.out)))
            have X3 := Lib.hid (HX1.out.below hb3)
            have z3 := hb3.size
            have hzM4 : M ≤ w3.heap.size := by omega
            clear hb3 cb
            go_wp2_with (at_builtin; refine wpList_append_own _ rfl (.tmp 25) (.tmp 29) 153 rfl M 156 i0 _ 2 16 Try.underlying153 hi iz0 iz1 iz2 rfl (by decide) _ (mvT T L f t).length (mvs (mvT T L f t)) rfl (O3.out.alloc _) ⟨_, 0, none⟩ 1 1 (Mv.cells ⟨f, t⟩) rfl rfl (mv_new _ ⟨f, t⟩) (mv_one _) (by unfold maxLen; omega) (by omega) (by simp; omega) ?_; intro v5 w5 own5 grow5 _; obtain ⟨g5, cap5, rfl, hg5, hl5⟩ := own5.form (by omega); have Own5 := Lib.hid own5; have B5 := Lib.hid ((H3.out.alloc hzM4 _).grown grow5 (by simp; omega) (by intro q hq; cases hq; exact hgg)); have X5 := Lib.hid (wds_grown (X3.out.below ((Below.refl _ _).alloc (Nat.le_refl _) _)) grow5 (by intro e; cases e; exact hg2g rfl)); clear own5 grow5)
            go_roundw
            case rel => exact ⟨t + 1, g5, cap5, by omega, by go_num, by rw [EL.out], hg5, by rw [EL.out, EN.out]; exact Own5.out, B5.out, X5.out⟩
            case measure => simp [intOf]; omega
          · have HA := Lib.hid ((able_bits HR.out (t : Int)).trans hg)
            have EN := Lib.hid (mvT_no (T := T) hg)
            clear hg
            go_wp2_with fail
            refine (able_any h L f (t : Int) wr HR.out.good.ok h31 h32 false HA).mono ?_
            rintro e w3 ⟨rfl, hb3⟩
            have H3 := Lib.hid (Hb.out.trans (hb3.mono hzM3))
            have O3 := Lib.hid (own_keep (w' := w3) Hown.out (hb3.block ga (own_blk Hown.out)))
            have X3 := Lib.hid (HX1.out.below hb3)
            clear hb3 cb
            go_wp2
            go_roundw
            case rel => exact ⟨t + 1, ga, ca, by omega, by go_num, by rw [EN.out], hgg, by rw [EN.out]; exact O3.out, H3.out, X3.out⟩
            case measure => simp [intOf]; omega
        · have htl2 : t = L.length := by omega
          subst htl2
          have Hown := Lib.hid hown
          have Hb := Lib.hid hbel
          have HX1 := Lib.hid hX
          clear hown hbel hX cb
          go_wp2
          go_roundw
          case rel => exact ⟨k + 1, ga, ca, by omega, by go_num, by rw [EK.out]; rfl, hgg, by rw [EK.out]; exact Hown.out, Hb.out, HX1.out⟩
          case measure => simp [intOf]; omega
    · have hkl : k = fs.length := by have := HFL.out; omega
      have hkl2 : k = l.length := by omega
      have hof := hown
      rw [hkl, List.take_length] at hof hlen2
      have HO := Lib.hid hof
      have hfb := Lib.hid (B2.out.trans (hbel.mono (show w.heap.size ≤ M by omega)))
      have HKL := Lib.hid hkl
      subst hkl2
      have ht : Hid (fs.take l.length = fs) := Lib.hid (by rw [HKL.out]; exact List.take_length ..)
      rw [ht.out]
      clear hof hbel hown hX hkl
      go_wp2
      go_ret
      refine ⟨mvA L fs, fun m => ?_, by omega, g, cap, rfl, by omega, hfb.out, Joins.ownsRow_le HO.out (by omega)⟩
      rw [mvA_mem]
      constructor
      · rintro ⟨h1, h2, h3⟩; exact ⟨HRF.out _ h1, h2, h3⟩
      · rintro ⟨h1, h2, h3⟩
        refine ⟨?_, h2, h3⟩
        have hm2 := (HL2.out.mem (enc WS m.f)).2 ⟨m.f, h1, rfl⟩
        rw [← HF.out] at hm2
        obtain ⟨g', hg', e⟩ := List.mem_map.1 hm2
        have e2 : g' = m.f := inv_inj ((HRF.out g' hg').inv hL) (h1.inv hL) e
        rw [← e2]; exact hg'
end Go.Proofs.Ytiljakbjbiinkaa
namespace Go.Proofs.Ytiljakbjbiinkaa
open Go.RowKit Pl
set_option maxHeartbeats 4000000
set_option maxRecDepth 100000
set_option linter.unusedVariables false

/-- A list of numbers as an answer. -/
def AnsIl1 (w : World) (o : List Int) (e : Ending) (w' : World) : Prop :=
  ∃ k : IlH, e = .returned (IlV k o) ∧ Below w.heap.size w w' ∧ w.heap.size ≤ w'.heap.size ∧ IlO w' w.heap.size w'.heap.size k o
theorem CopyV.call {w wr w4 : World} {t : TypeId} {vs : List Value} {k : Nat} (h : CopyV w wr t vs k) (hb : Below wr.heap.size wr w4) : CopyV w w4 t vs k := by
  obtain ⟨h0, cs, hbk, h1⟩ := h
  exact ⟨below_on h0 hb, cs, hbk.below hb hbk.lt, h1⟩
end Go.Proofs.Ytiljakbjbiinkaa
namespace Go.Proofs.Ytiljakbjbiinkaa
open Go.RowKit Pl
set_option maxHeartbeats 4000000
set_option maxRecDepth 100000
set_option linter.unusedVariables false

def tkN (a c0 c1 : Bool) (k : Nat) : Int :=
  match k with
  | 0 => 0
  | 1 => if c0 then (if a then 2 else 1) else 0
  | _ => if c0 then (if c1 then (if a then 10 else 5) else (if a then 2 else 1)) else (if c1 then (if a then 8 else 4) else 0)
/-- The bits, of the statement that a thread does next. -/
def tkX (f : Nat → Nat) (t : Nat) (x : Sm) : Int := if x.k = 6 then tkN (x.a == 1) (f 18 == t + 1) (f 19 == t + 1) 2 else 0
end Go.Proofs.Ytiljakbjbiinkaa
namespace Go.Proofs.Ytiljakbjbiinkaa
open Go.RowKit Pl
set_option maxHeartbeats 4000000
set_option maxRecDepth 100000
set_option linter.unusedVariables false

def matR (m n : Nat) (M : Nat → Nat → Bool) : List (List Bool) := (List.range m).map fun i => (List.range n).map (M i)
@[simp] theorem matR_length (m n : Nat) (M : Nat → Nat → Bool) : (matR m n M).length = m := by simp [matR]
theorem matR_at {m n : Nat} {M : Nat → Nat → Bool} {i : Nat} {xs : List Bool} (h : (matR m n M)[i]? = some xs) : i < m ∧ xs = (List.range n).map (M i) := by
  have hl := (List.getElem?_eq_some_iff.1 h).1
  rw [matR_length] at hl
  refine ⟨hl, ?_⟩
  simp [matR, hl] at h
  exact h.symm
/-- A table that is whole: its headers and its rows. -/
theorem tabR_own {w : World} {lo hi n m : Nat} {A : Option Addr} {D : Nat → Nat} {M : Nat → Nat → Bool} (hH : OwnVs w lo hi 62 A (heads n m D)) (hT : Tab w lo hi n m D M) : OwnVss w lo hi 62 4 A (vsBss (matR m n M)) := fun hn => by
  rw [vsBss_length, matR_length] at hn
  obtain ⟨g, cs, hA, h0, h1, hb, hx⟩ := hH (by rw [heads_length]; exact hn)
  refine ⟨g, cs, fun i => some ⟨D i, 0, none⟩, fun _ => n, hA, h0, h1, hb, fun i vs hi' => ?_, fun i j vs us hij hi' hj _ _ e => ?_⟩
  · obtain ⟨xs, hxs, rfl⟩ := vsBss_inv hi'
    obtain ⟨hin, rfl⟩ := matR_at hxs
    rw [bools_length, List.length_map, List.length_range]
    refine ⟨hx i _ (heads_at hin), fun _ => ?_⟩
    obtain ⟨a, b, cr, hbr, hs, hc⟩ := hT.1 i hin
    refine ⟨D i, cr, rfl, a, b, hbr, fun j v hj => ?_⟩
    have hjl := (List.getElem?_eq_some_iff.1 hj).1
    rw [bools_length, List.length_map, List.length_range] at hjl
    rw [hc j hjl]
    simp [bools, hjl] at hj
    rw [hj]
  · obtain ⟨xs, hxs, rfl⟩ := vsBss_inv hi'
    obtain ⟨ys, hys, rfl⟩ := vsBss_inv hj
    have h2 := (matR_at hxs).1
    have h3 := (matR_at hys).1
    injection e with e
    injection e with e
    have := hT.inj h2 h3 e
    omega
/-- A table in memory at work: below lo nothing has turned, the headers and the rows stand below hi. -/
structure PhR (w wr : World) (lo g hi n m : Nat) (D : Nat → Nat) (M : Nat → Nat → Bool) : Prop where
  bel : Below lo w wr
  top : hi ≤ wr.heap.size
  hd : OwnVs wr lo hi 62 (some ⟨g, 0, none⟩) (heads n m D)
  tab : Tab wr lo hi n m D M
theorem PhR.head {w wr : World} {lo g hi n m : Nat} {D : Nat → Nat} {M : Nat → Nat → Bool} (h : PhR w wr lo g hi n m D M) {i : Nat} (hi' : i < m) : wr.cell? ⟨g, i, none⟩ = some (.slice (some ⟨D i, 0, none⟩) n n) ∧ g < wr.heap.size := by
  obtain ⟨g', cs, hA, h0, h1, hb, hx⟩ := h.hd (by rw [heads_length]; omega)
  injection hA with hA
  injection hA with hA
  subst hA
  exact ⟨(hb.cell i).trans (hx i _ (heads_at hi')), hb.lt⟩
theorem PhR.cell {w wr : World} {lo g hi n m : Nat} {D : Nat → Nat} {M : Nat → Nat → Bool} (h : PhR w wr lo g hi n m D M) {i k : Nat} (hi' : i < m) (hk : k < n) : wr.cell? ⟨D i, k, none⟩ = some (.bool (M i k)) ∧ D i < wr.heap.size ∧ wr.frozen? ⟨D i, k, none⟩ = false := by
  obtain ⟨_, _, cs, hb, _, hc⟩ := h.tab.1 i hi'
  exact ⟨(hb.cell k).trans (hc k hk), hb.lt, hb.free k⟩
/-- One truth of a table. -/
def putV (M : Nat → Nat → Bool) (i k : Nat) (v : Bool) : Nat → Nat → Bool := fun a j => if a = i ∧ j = k then v else M a j
theorem Tab.putv {w : World} {lo hi n m : Nat} {D : Nat → Nat} {M : Nat → Nat → Bool} (h : Tab w lo hi n m D M) {i k : Nat} (hi' : i < m) (hk : k < n) (v : Bool) : Tab (w.setCell ⟨D i, k, none⟩ (.bool v)) lo hi n m D (putV M i k v) := by
  have h' := h
  obtain ⟨h0, h1⟩ := h
  refine ⟨fun a ha => ?_, h1⟩
  obtain ⟨q0, q1, cs, hb, hs, hc⟩ := h0 a ha
  by_cases e : a = i
  · subst e
    refine ⟨q0, q1, _, hb.set k _, by simpa using hs, fun j hj => ?_⟩
    unfold putV
    by_cases e2 : k = j
    · subst e2; rw [Array.getElem?_setIfInBounds_self_of_lt (by omega), if_pos ⟨rfl, rfl⟩]
    · rw [Array.getElem?_setIfInBounds_ne e2, if_neg (by omega)]; exact hc j hj
  · refine ⟨q0, q1, cs, (Below.heap_setCell w ⟨D i, k, none⟩ _ (D a) (fun e3 => e (h'.inj ha hi' e3))).trans hb, hs, fun j hj => ?_⟩
    unfold putV
    rw [if_neg (by omega)]; exact hc j hj
theorem PhR.putv {w wr : World} {lo g hi n m : Nat} {D : Nat → Nat} {M : Nat → Nat → Bool} (h : PhR w wr lo g hi n m D M) {i k : Nat} (hi' : i < m) (hk : k < n) (v : Bool) : PhR w (wr.setCell ⟨D i, k, none⟩ (.bool v)) lo g hi n m D (putV M i k v) := by
  obtain ⟨a, b, cs, hb, _, _⟩ := h.tab.1 i hi'
  refine ⟨h.bel.setCell a _, by rw [World.size_setCell]; exact h.top, fun hn => ?_, h.tab.putv hi' hk v⟩
  obtain ⟨g', cg, hA, h0, h1, hbg, hx⟩ := h.hd hn
  refine ⟨g', cg, hA, h0, h1, (Below.heap_setCell wr ⟨D i, k, none⟩ _ g' (fun e => ?_)).trans hbg, hx⟩
  have e : g' = D i := e
  subst e
  unfold Bk at hb hbg
  rw [hb] at hbg
  injection hbg with hbg
  injection hbg with _ hbg
  cases hbg
theorem PhR.below {w wr wv : World} {lo g hi n m : Nat} {D : Nat → Nat} {M : Nat → Nat → Bool} (h : PhR w wr lo g hi n m D M) (hb : Below wr.heap.size wr wv) (hl : lo ≤ wr.heap.size) : PhR w wv lo g hi n m D M :=
  ⟨h.bel.trans (hb.mono hl), Nat.le_trans h.top hb.size, h.hd.below hb h.top, h.tab.keep (Nat.le_refl _) (Nat.le_refl _) fun i _ _ h2 _ => hb.block i (by have := h.top; omega)⟩
theorem PhR.own {w wr : World} {lo g hi n m : Nat} {D : Nat → Nat} {M : Nat → Nat → Bool} (h : PhR w wr lo g hi n m D M) : OwnVss wr lo hi 62 4 (some ⟨g, 0, none⟩) (vsBss (matR m n M)) := tabR_own h.hd h.tab
theorem matR_congr {m n : Nat} {M M' : Nat → Nat → Bool} (h : ∀ i j, i < m → j < n → M i j = M' i j) : matR m n M = matR m n M' := by
  unfold matR
  refine List.map_congr_left fun i hi => List.map_congr_left fun j hj => ?_
  exact h i j (List.mem_range.1 hi) (List.mem_range.1 hj)
/-- What the loop over the rows has come to: the headers of the first i rows lie in block g. -/
def PBR (w wr : World) (m i : Nat) (D : Nat → Nat) (M : Nat → Nat → Bool) : Prop :=
  Below w.heap.size w wr ∧ w.heap.size < wr.heap.size ∧ (∃ cs, Bk wr w.heap.size 62 cs ∧ cs.size = m ∧ ∀ j, j < i → cs[j]? = some (.slice (some ⟨D j, 0, none⟩) 2 2)) ∧ Tab wr w.heap.size wr.heap.size 2 i D M
theorem lockrows_any (N : Int) (m : Nat) (M : Nat → Nat → Bool) (w : World) (hm : m ≤ 3) (hbit : Hid (∀ (r l : Nat), r < m → l < 2 → ∀ V : World, Calls Try.prog 128 #[.int .u64 N, .int .i64 ((r : Int) * 2 + (l : Int))] V (fun e w' => e = .returned (.bool (M r l)) ∧ V = w'))) :
    Calls Try.prog 125 #[.int .u64 N, .int .i64 m] w fun e w' => e = .returned (.slice (some ⟨w.heap.size, 0, none⟩) m m) ∧ Below w.heap.size w w' ∧ BssO w' w.heap.size w'.heap.size ⟨some ⟨w.heap.size, 0, none⟩, m⟩ (matR m 2 M) := by
  obtain ⟨i0, hi, hz0, hz1, hz2⟩ := info_parts Try.info4
  have hmk := make_any Try.underlying62 hi hz0 2 (by rw [hz2]; omega) (by omega)
  rw [hz1, show ((2 : Nat) : Int) = 2 from rfl, show 2 * 1 = 2 from rfl] at hmk
  obtain ⟨i1, hi1, jz0, jz1, jz2⟩ := info_parts Try.info62
  have hmk2 := make_any Try.underlying86 hi1 jz0 m (by rw [jz2]; omega) (by omega)
  rw [jz1, Nat.mul_one] at hmk2
  clear hz0 hz1 hz2 hi jz0 jz1 jz2 hi1
  have start : Hid (PBR w (w.alloc (.cells (madeCells #[.slice none 0 0] m) 62)) m 0 (fun _ => 0) M) := Lib.hid ⟨(Below.refl _ _).alloc (Nat.le_refl _) _, by simp, ⟨_, Bk.new _ _ _, by simp [size_madeCells], fun j hj => absurd hj (by omega)⟩, Tab.nil _ _ _ _ _ _⟩
  go_enter Try.func125, Try.ntmps125
  go_wp2
  go_loopw [12] (fun j wr => ∃ (i : Nat) (D : Nat → Nat), i ≤ m ∧ j = .int .i64 i ∧ PBR w wr m i D M) (fun j _ => m - (intOf j).toNat)
  case atStart => exact ⟨0, _, Nat.zero_le _, rfl, start.out⟩
  case round =>
    obtain ⟨i, D, hil, rfl, hpb⟩ := hrel
    clear start hmk2
    by_cases hlt : i < m
    · obtain ⟨hb3, hs3, ⟨cs, hbk, hcs, hcc⟩, htab⟩ := hpb
      have hi1 : (i : Int) < (m : Int) := by omega
      obtain ⟨v0, e0⟩ := hbk.some_ (i := i) (by omega)
      have f0 := hbk.free i
      obtain ⟨wo, rfl⟩ : ∃ wo : World, wo = wr := ⟨_, rfl⟩
      obtain ⟨V, hV⟩ : ∃ V, V = (wo.setCell ⟨w.heap.size, i, none⟩ (.slice (some ⟨wo.heap.size, 0, none⟩) 2 2)).alloc (.cells (madeCells #[.bool false] 2) 4) := ⟨_, rfl⟩
      have sX : (wo.setCell ⟨w.heap.size, i, none⟩ (.slice (some ⟨wo.heap.size, 0, none⟩) 2 2)).heap.size = wo.heap.size := World.size_setCell ..
      have bV : Below w.heap.size w V := by rw [hV]; exact (hb3.setCell (Nat.le_refl _) _).alloc (by rw [sX]; omega) _
      have KG := Lib.hid (show Bk V w.heap.size 62 (cs.setIfInBounds i (.slice (some ⟨wo.heap.size, 0, none⟩) 2 2)) by rw [hV]; exact (hbk.set i _).alloc _)
      have KR := Lib.hid (show RowC V wo.heap.size 2 0 (M i) by
        rw [hV]
        refine ⟨madeCells #[.bool false] 2, ?_, by simp [size_madeCells], fun j hj => by simp [madeCells, hj, Nat.mod_one]⟩
        have := Bk.new (wo.setCell ⟨w.heap.size, i, none⟩ (.slice (some ⟨wo.heap.size, 0, none⟩) 2 2)) (madeCells #[.bool false] 2) 4
        rwa [sX] at this)
      have KT := Lib.hid (show Tab V w.heap.size wo.heap.size 2 i D M by
        rw [hV]
        refine htab.keep (Nat.le_refl _) (Nat.le_refl _) fun q cq h1 h2 h3 => ?_
        have hq : q ≠ w.heap.size := fun e => by
          subst e
          unfold Bk at h3 hbk
          rw [h3] at hbk
          injection hbk with hbk
          injection hbk with _ hbk
          cases hbk
        exact (Below.heap_alloc _ _ q (by rw [sX]; exact h2)).trans (Below.heap_setCell _ _ _ q hq))
      have sV : wo.heap.size < V.heap.size := by rw [hV]; simp [sX]
      have BV := Lib.hid bV
      have HV := Lib.hid hV
      have HCC := Lib.hid hcc
      clear hV bV hbk hcc htab hb3 sX
      have kG0 : V.cell? ⟨w.heap.size, i, none⟩ = some (.slice (some ⟨wo.heap.size, 0, none⟩) 2 2) := (KG.out.cell i).trans (by rw [Array.getElem?_setIfInBounds_self_of_lt (by omega)])
      have lG0 := KG.out.lt
      go_wp2_with fail
      rw [← HV.out]
      clear e0 f0
      go_wp2_with fail
      clear kG0 lG0
      go_loopw [24] (fun j wr => ∃ q : Nat, q ≤ 2 ∧ j = .int .i64 q ∧ Only wo.heap.size (wo.heap.size + 1) V wr ∧ RowC wr wo.heap.size 2 q (M i)) (fun j _ => 2 - (intOf j).toNat)
      case atStart => exact ⟨0, Nat.zero_le _, rfl, Only.refl _ _ _, KR.out⟩
      case round =>
        obtain ⟨q, hql, rfl, hon, hrow⟩ := hrel
        clear KR
        by_cases hlq : q < 2
        · have hq1 : (q : Int) < 2 := by omega
          have kG : Bk wr w.heap.size 62 _ := (hon.block w.heap.size KG.out.lt (by omega)).trans KG.out
          have cG : wr.cell? ⟨w.heap.size, i, none⟩ = some (.slice (some ⟨wo.heap.size, 0, none⟩) 2 2) := (kG.cell i).trans (by rw [Array.getElem?_setIfInBounds_self_of_lt (by omega)])
          have lG := kG.lt
          obtain ⟨cr, hbr, hcr, -⟩ := id hrow
          obtain ⟨v1, e1⟩ := hbr.some_ (i := q) (by omega)
          have f1 := hbr.free q
          have lR := hbr.lt
          have HON := Lib.hid hon
          have HROW := Lib.hid hrow
          have hct := Lib.hid (hbit.out i q hlt hlq)
          have hw1 : IntKind.i64.wrap ((i : Int) * 2) = (i : Int) * 2 := wrap64_small (by omega) (by omega)
          have hw2 : IntKind.i64.wrap ((i : Int) * 2 + (q : Int)) = (i : Int) * 2 + (q : Int) := wrap64_small (by omega) (by omega)
          clear kG hbr hon hrow
          go_wp2_with fail
          go_region_with (go_at_call 128; refine (hct.out _).mono ?_; rintro e w' ⟨rfl, rfl⟩)
          all_goals
            have Fin := Lib.hid (show Only wo.heap.size (wo.heap.size + 1) V ((wr.setCell ⟨wo.heap.size, q, none⟩ (.bool (M i q))).drew) ∧ RowC ((wr.setCell ⟨wo.heap.size, q, none⟩ (.bool (M i q))).drew) wo.heap.size 2 (q + 1) (M i) from
              ⟨(HON.out.setCell (p := ⟨wo.heap.size, q, none⟩) (Nat.le_refl _) (Nat.lt_succ_self _) _).trans ⟨rfl, rfl, rfl, Nat.le_refl _, fun _ _ _ => rfl⟩, HROW.out.put rfl⟩)
            clear cG e1 f1 HON HROW
            go_wp2
            go_roundw
            case rel => exact ⟨q + 1, by omega, by go_num, Fin.out.1, Fin.out.2⟩
            case measure => simp [intOf]; omega
        · have hqq : q = 2 := by omega
          subst hqq
          have Next : Hid (PBR w wr m (i + 1) (fun j => if j = i then wo.heap.size else D j) M) := Lib.hid (by
            have hsz := hon.size
            obtain ⟨cr, hbr, hcr, hcc2⟩ := hrow
            have kG : Bk wr w.heap.size 62 _ := (hon.block w.heap.size KG.out.lt (by omega)).trans KG.out
            refine ⟨BV.out.trans (hon.to_below (by omega) (by have := BV.out.size; omega)), by omega, ⟨_, kG, by simpa using hcs, fun j hj => ?_⟩, ?_⟩
            · show _ = some (Value.slice (some ⟨(if j = i then wo.heap.size else D j), 0, none⟩) 2 2)
              by_cases e : j = i
              · subst e
                rw [Array.getElem?_setIfInBounds_self_of_lt (by omega), if_pos rfl]
              · rw [Array.getElem?_setIfInBounds_ne (fun h => e h.symm), if_neg e]
                exact HCC.out j (by omega)
            · refine (KT.out.keep (Nat.le_refl _) (Nat.le_refl _) fun z cz h1 h2 _ => hon.block z (by omega) (Or.inl h2)).snoc (Nat.le_refl _) (by omega) (by omega) hbr hcr fun j hj => ?_
              rw [hcc2 j hj, decide_eq_true hj, Bool.true_and])
          clear hon hrow
          go_wp2
          go_roundw
          case rel => exact ⟨i + 1, _, by omega, by go_num, Next.out⟩
          case measure => simp [intOf]; omega
    · have hii : i = m := by omega
      subst hii
      obtain ⟨hb3, hs3, ⟨cs, hbk, hcs, hcc⟩, htab⟩ := hpb
      have Fin := Lib.hid (show BssO wr w.heap.size wr.heap.size ⟨some ⟨w.heap.size, 0, none⟩, i⟩ (matR i 2 M) from
        ⟨tabR_own (fun hn => ⟨w.heap.size, cs, rfl, Nat.le_refl _, hs3, hbk, fun j v hj => by
          have hjl := (List.getElem?_eq_some_iff.1 hj).1
          rw [heads_length] at hjl
          rw [heads_at hjl] at hj
          rw [hcc j hjl]; exact hj⟩) htab⟩)
      have B3 := Lib.hid hb3
      clear hbk hcc htab hb3
      go_wp2
      go_ret
      exact ⟨rfl, B3.out, Fin.out⟩
end Go.Proofs.Ytiljakbjbiinkaa
namespace Go.Proofs.Ytiljakbjbiinkaa
set_option maxHeartbeats 2000000
set_option maxRecDepth 100000
set_option linter.unusedVariables false

/-- The words and threads along an order. -/
def visits (L : Pg) : (Nat → Nat) → List Int → List Mv
  | _, [] => []
  | f, th :: r => ⟨f, th.toNat⟩ :: visits L (stepF L f th.toNat) r
theorem visits_rch {L : Pg} : ∀ {r : List Int} {f g : Nat → Nat} {m : Mv}, Rch L f → runF L f r = some g → m ∈ visits L f r → Rch L m.f ∧ m.t < L.length ∧ goB L m.f (m.t : Int) = true
  | [], f, g, m, hf, h, hm => by exact absurd hm List.not_mem_nil
  | th :: r, f, g, m, hf, h, hm => by
    unfold runF at h
    split at h
    · rename_i hx
      obtain ⟨t, e, ht, hc⟩ := goB_parts hx
      rw [e] at hx h hm
      unfold visits at hm
      rw [Int.toNat_natCast] at h hm
      rcases List.mem_cons.1 hm with hm | hm
      · rw [hm]; exact ⟨hf, ht, hx⟩
      · exact visits_rch (.step hf ht hx) h hm
    · cases h
theorem runF_cat {L : Pg} : ∀ {r s : List Int} {f g h : Nat → Nat}, runF L f r = some g → runF L g s = some h → runF L f (r ++ s) = some h
  | [], s, f, g, h, h1, h2 => by
    simp only [runF, Option.some.injEq] at h1
    rw [h1]; exact h2
  | x :: r, s, f, g, h, h1, h2 => by
    unfold runF at h1
    show (if goB L f x then runF L (stepF L f x.toNat) (r ++ s) else none) = _
    split at h1
    · rename_i hx
      rw [if_pos hx]
      exact runF_cat h1 h2
    · cases h1
theorem visits_cat {L : Pg} : ∀ {r s : List Int} {f g : Nat → Nat}, runF L f r = some g → visits L f (r ++ s) = visits L f r ++ visits L g s
  | [], s, f, g, h1 => by
    simp only [runF, Option.some.injEq] at h1
    rw [h1]; rfl
  | x :: r, s, f, g, h1 => by
    unfold runF at h1
    split at h1
    · rename_i hx
      show _ :: visits L (stepF L f x.toNat) (r ++ s) = _ :: (visits L (stepF L f x.toNat) r ++ visits L g s)
      rw [visits_cat h1]
    · cases h1
/-- Whatever the word, some order goes on to an end. -/
theorem to_end {L : Pg} (hL : progB L = true) : ∀ (m : Nat) (f : Nat → Nat), Inv L f → slack L f ≤ m → ∃ r g, runF L f r = some g ∧ endB L g = true
  | 0, f, I, hs => ⟨[], f, rfl, slack_end hL I (by omega)⟩
  | m + 1, f, I, hs => by
    rcases Bool.eq_false_or_eq_true (endB L f) with he | he
    · exact ⟨[], f, rfl, he⟩
    · have hx : ∃ t, t < L.length ∧ goB L f (t : Int) = true := by
        refine Classical.byContradiction fun hno => ?_
        have : endB L f = true := endB_at fun t ht => by
          rw [Bool.eq_false_iff]
          intro hg
          exact hno ⟨t, ht, hg⟩
        rw [he] at this; cases this
      obtain ⟨t, ht, hg⟩ := hx
      have hc := goB_c ht hg
      have hsl := slack_step hL I ht hc
      obtain ⟨r, g, h1, h2⟩ := to_end hL m (stepF L f t) (inv_step hL I ht hc) (by omega)
      refine ⟨(t : Int) :: r, g, ?_, h2⟩
      unfold runF
      rw [if_pos hg, Int.toNat_natCast]
      exact h1
theorem visits_iff {L : Pg} (hL : progB L = true) {m : Mv} : (∃ r ∈ allO L, m ∈ visits L (keptF L zeroF L.length) r) ↔ Rch L m.f ∧ m.t < L.length ∧ goB L m.f (m.t : Int) = true := by
  constructor
  · rintro ⟨r, hr, hm⟩
    obtain ⟨g, hg, -⟩ := (allO_iff hL).1 hr
    exact visits_rch .beg hg hm
  · rintro ⟨h1, h2, h3⟩
    obtain ⟨r0, hr0⟩ := rch_run h1
    have I := h1.inv hL
    have hc := goB_c h2 h3
    obtain ⟨r1, g, hr1, he⟩ := to_end hL _ (stepF L m.f m.t) (inv_step hL I h2 hc) (Nat.le_refl _)
    have hstep : runF L m.f ((m.t : Int) :: r1) = some g := by
      unfold runF
      rw [if_pos h3, Int.toNat_natCast]
      exact hr1
    refine ⟨r0 ++ (m.t : Int) :: r1, (allO_iff hL).2 ⟨g, runF_cat hr0 hstep, he⟩, ?_⟩
    rw [visits_cat hr0]
    refine List.mem_append.2 (Or.inr ?_)
    unfold visits
    rw [Int.toNat_natCast]
    exact List.mem_cons_self ..
/-- Whether a thread that goes on takes a lock while it has one. -/
def tkB (L : Pg) (m : Mv) (had taken : Nat) : Bool := (smAt L m.t (m.f (3 + m.t))).k == 6 && ((smAt L m.t (m.f (3 + m.t))).a == (taken : Int) && m.f (18 + had) == m.t + 1)
def tkM (L : Pg) (m : Mv) : Nat := (tkX m.f m.t (smAt L m.t (m.f (3 + m.t)))).toNat
theorem tkN_all : ∀ (a c0 c1 : Bool), 0 ≤ tkN a c0 c1 2 ∧ tkN a c0 c1 2 < 16 ∧ (tkN a c0 c1 2).toNat.testBit 0 = (!a && c0) ∧ (tkN a c0 c1 2).toNat.testBit 1 = (a && c0) ∧ (tkN a c0 c1 2).toNat.testBit 2 = (!a && c1) ∧ (tkN a c0 c1 2).toNat.testBit 3 = (a && c1) := by decide
theorem tkM_cast (L : Pg) (m : Mv) : ((tkM L m : Nat) : Int) = tkX m.f m.t (smAt L m.t (m.f (3 + m.t))) ∧ tkM L m < 16 := by
  unfold tkM tkX
  split
  · obtain ⟨h0, h1, -⟩ := tkN_all ((smAt L m.t (m.f (3 + m.t))).a == 1) (m.f 18 == m.t + 1) (m.f 19 == m.t + 1)
    omega
  · exact ⟨rfl, by decide⟩
theorem tkM_bit {L : Pg} {m : Mv} (hok : (smAt L m.t (m.f (3 + m.t))).okb = true) {h a : Nat} (hh : h < 2) (ha : a < 2) : (tkM L m).testBit (h * 2 + a) = tkB L m h a := by
  unfold tkM tkX tkB
  by_cases h6 : (smAt L m.t (m.f (3 + m.t))).k = 6
  · rw [if_pos h6, h6]
    obtain ⟨n, hn, e⟩ := ok_lock hok (Or.inl h6)
    obtain ⟨-, -, h2, h3, h4, h5⟩ := tkN_all ((smAt L m.t (m.f (3 + m.t))).a == 1) (m.f 18 == m.t + 1) (m.f 19 == m.t + 1)
    rw [e] at h2 h3 h4 h5 ⊢
    match n, hn with
    | 0, _ =>
      match h, hh, a, ha with
      | 0, _, 0, _ => rw [h2]; simp
      | 0, _, 1, _ => rw [h3]; simp
      | 1, _, 0, _ => rw [h4]; simp
      | 1, _, 1, _ => rw [h5]; simp
    | 1, _ =>
      match h, hh, a, ha with
      | 0, _, 0, _ => rw [h2]; simp
      | 0, _, 1, _ => rw [h3]; simp
      | 1, _, 0, _ => rw [h4]; simp
      | 1, _, 1, _ => rw [h5]; simp
  · rw [if_neg h6]
    have e : ((smAt L m.t (m.f (3 + m.t))).k == 6) = false := by simpa using h6
    rw [e]; simp
/-- For each two locks, whether in some whole order the second one is taken by who has the first one. -/
def lpM (L : Pg) (had taken : Nat) : Bool := (allO L).any fun r => (visits L (keptF L zeroF L.length) r).any fun m => tkB L m had taken
theorem lpM_of {L : Pg} (hL : progB L = true) {ms : List Mv} (hm : ∀ m : Mv, m ∈ ms ↔ Rch L m.f ∧ m.t < L.length ∧ goB L m.f (m.t : Int) = true) (had taken : Nat) : ms.any (fun m => tkB L m had taken) = lpM L had taken := by
  unfold lpM
  rw [Bool.eq_iff_iff, List.any_eq_true, List.any_eq_true]
  constructor
  · rintro ⟨m, h1, h2⟩
    obtain ⟨r, hr, hv⟩ := (visits_iff hL).2 ((hm m).1 h1)
    exact ⟨r, hr, List.any_eq_true.2 ⟨m, hv, h2⟩⟩
  · rintro ⟨r, hr, h1⟩
    obtain ⟨m, hv, h2⟩ := List.any_eq_true.1 h1
    exact ⟨m, (hm m).2 ((visits_iff hL).1 ⟨r, hr, hv⟩), h2⟩
def lpE (L : Pg) : List (List Bool) := if progB L then matR 2 2 (lpM L) else []
theorem lpE_small {L : Pg} (_ : PgS L) : BssS (lpE L) := by
  unfold lpE
  split
  · exact ⟨by simp, by simp [matR, tot, List.range_succ]⟩
  · exact ⟨by simp, by simp [tot]⟩
theorem next_ok {L : Pg} {f : Nat → Nat} {t : Nat} (hL : progB L = true) (I : Inv L f) (ht : t < L.length) (hg : goB L f (t : Int) = true) : f (3 + t) < (L.getD t []).length ∧ (smAt L t (f (3 + t))).okb = true := by
  have h1 := can_more I.good ht (goB_c ht hg)
  exact ⟨h1, (sm_next hL I.good ht (by omega)).2⟩
end Go.Proofs.Ytiljakbjbiinkaa
namespace Go.Proofs.Ytiljakbjbiinkaa
open Go.RowKit Pl
set_option maxHeartbeats 4000000
set_option maxRecDepth 100000
set_option linter.unusedVariables false

theorem heads_news2 {w : World} {base g cap n : Nat} {t : TypeId} {s : Nat} {vs : List Value} (h : w.ownsRow base t s (.slice (some ⟨g, 0, none⟩) n cap) n vs) : ∀ j u, vs[j]? = some u → w.cell? ((⟨g, 0, none⟩ : Addr).add j) = some u := by
  intro j u hj
  rcases h.2 with ⟨h1, _⟩ | ⟨g', cap', cur, hv', _, hh, _, _, _, htake⟩
  · cases h1
  · injection hv' with hA
    injection hA with hA
    injection hA with hA
    subst hA
    have hb : Bk w g t cur := hh
    rw [addr_add', Nat.zero_add]
    refine (hb.cell j).trans ?_
    rw [← htake, List.getElem?_take] at hj
    split at hj
    · simpa using hj
    · cases hj
theorem mv_cells {w : World} {base g n cap : Nat} {ms : List Mv} (h : w.ownsRow base 156 2 (.slice (some ⟨g, 0, none⟩) n cap) n (mvs ms)) {k : Nat} {m : Mv} (hk : ms[k]? = some m) :
    w.cell? ⟨g, k * 2, none⟩ = some (.int .u64 ((enc WS m.f : Nat) : Int)) ∧ w.cell? ⟨g, k * 2 + 1, none⟩ = some (.int .i64 (m.t : Int)) := by
  have hn := heads_news2 h
  obtain ⟨h1, h2⟩ := mvs_at hk
  have e1 := hn _ _ h1
  have e2 := hn _ _ h2
  rw [addr_add', Nat.zero_add] at e1 e2
  exact ⟨e1, e2⟩
theorem or_any {l : List Mv} {L : Pg} {k A : Nat} {m : Mv} (hk : l[k]? = some m) (h : ∀ b, A.testBit b = (l.take k).any fun m => (tkM L m).testBit b) : ∀ b, (A ||| tkM L m).testBit b = (l.take (k + 1)).any fun m => (tkM L m).testBit b := fun b => by
  rw [Nat.testBit_or, h b, List.take_add_one, hk, List.any_append]
  simp
end Go.Proofs.Ytiljakbjbiinkaa
