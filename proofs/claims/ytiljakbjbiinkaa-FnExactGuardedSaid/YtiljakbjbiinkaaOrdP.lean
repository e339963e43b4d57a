/-
  Whole orders, plainly; lists of lists put one behind the other in memory. No program is walked here.
-/
import Derived.Test.YtiljakbjbiinkaaSBef
import Derived.Test.YtiljakbjbiinkaaDep3
import Derived.Test.YtiljakbjbiinkaaRun
import Derived.Test.YtiljakbjbiinkaaStOk
namespace Go.Proofs.Ytiljakbjbiinkaa
open Go.RowKit Pl Go.BigFrame
set_option maxHeartbeats 4000000
set_option maxRecDepth 100000
set_option linter.unusedVariables false

/-- The word of an event of a thread. -/
def ewN (t : Fin 3) (q : Fin 11) : Nat := chgN (1 <<< t.val) ||| qN q
theorem ew_clash : ∀ (t u : Fin 3) (q r : Fin 11), clN (ewN t q) (ewN u r) = (decide (t = u) || qT q r) := by decide +kernel
theorem ew_lt : ∀ (t : Fin 3) (q : Fin 11), ewN t q < 2 ^ 20 := by decide +kernel
def depE (x y : Evt) : Bool := depB x.t x.i x.x.k x.x.a x.x.b x.x.c x.x.s y.t y.i y.x.k y.x.a y.x.b y.x.c y.x.s
/-- Which word an event has. -/
def EwOf (x : Evt) (W : Nat) : Prop := ∃ (t : Fin 3) (q : Fin 11), x.t = (t.val : Int) ∧ (placeZ x.x.k x.x.a x.x.b x.x.c x.x.s = qP q ∧ writesB x.x.k x.x.a x.x.b x.x.c x.x.s = qW q ∧ lockZ x.x.k x.x.a x.x.b x.x.c x.x.s = qL q ∧ chanZ x.x.k x.x.a x.x.b x.x.c x.x.s = qC q) ∧ W = ewN t q
theorem ew_some {x : Evt} (h0 : 0 ≤ x.t) (h3 : x.t < 3) : ∃ W, EwOf x W := by
  obtain ⟨q, hq⟩ := way x.x.k x.x.a x.x.b x.x.c x.x.s
  exact ⟨_, ⟨x.t.toNat, by omega⟩, q, by show x.t = ((x.t.toNat : Nat) : Int); omega, hq, rfl⟩
theorem ew_dep {x y : Evt} {V W : Nat} (hx : EwOf x V) (hy : EwOf y W) : clN V W = depE x y := by
  obtain ⟨t, q, ht, hq, rfl⟩ := hx
  obtain ⟨u, r, hu, hr, rfl⟩ := hy
  rw [ew_clash]
  unfold depE depB
  rw [tou_eq hq hr, qT_eq, ht, hu]
  congr 1
  rw [Bool.eq_iff_iff, decide_eq_true_eq, beq_iff_eq]
  constructor
  · rintro rfl; rfl
  · intro h; exact Fin.ext (by omega)
/-- Numbers of the call's own. -/
def AnsN (w : World) (v : List Int) (e : Ending) (w' : World) : Prop :=
  ∃ g cap, e = .returned (.slice (some ⟨g, 0, none⟩) v.length cap) ∧ Below w.heap.size w w' ∧ w.heap.size ≤ g ∧ w'.ownsRow w.heap.size 3 1 (.slice (some ⟨g, 0, none⟩) v.length cap) v.length (ints v)
/-- Numbers in one block. -/
def NumsAt (w : World) (g : Nat) (v : List Int) : Prop := g < w.heap.size ∧ (0 < v.length → ∃ cs, Bk w g 3 cs ∧ ∀ (j : Nat) (u : Value), (ints v)[j]? = some u → cs[j]? = some u)
theorem nums_of {w : World} {base g cap : Nat} {v : List Int} (h : w.ownsRow base 3 1 (.slice (some ⟨g, 0, none⟩) v.length cap) v.length (ints v)) : NumsAt w g v := by
  rcases h.2 with ⟨h1, _⟩ | ⟨g', cap', cur, e1, e2, e3, _⟩
  · cases h1
  · injection e1 with e1 _ _
    injection e1 with e1
    injection e1 with e1
    subst e1
    have hb : Bk w g 3 cur := e3
    refine ⟨hb.lt, fun hn => ?_⟩
    obtain ⟨g'', cs, hA, _, _, hb2, hx⟩ := own_vs h rfl (by rw [ints_length]; exact hn)
    injection hA with hA
    injection hA with hA
    subst hA
    exact ⟨cs, hb2, hx⟩
end Go.Proofs.Ytiljakbjbiinkaa
namespace Go.Proofs.Ytiljakbjbiinkaa
open Go.RowKit Pl
set_option maxHeartbeats 4000000
set_option maxRecDepth 100000
set_option linter.unusedVariables false

/-- No thread can go on. -/
def endB (L : Pg) (f : Nat → Nat) : Bool := (List.range L.length).all fun t => !goB L f (t : Int)
theorem endB_at {L : Pg} {f : Nat → Nat} (h : ∀ t, t < L.length → goB L f (t : Int) = false) : endB L f = true := by
  unfold endB
  rw [List.all_eq_true]
  intro t ht
  rw [h t (List.mem_range.1 ht)]; rfl
theorem endB_not {L : Pg} {f : Nat → Nat} {t : Nat} (ht : t < L.length) (h : goB L f (t : Int) = true) : endB L f = false := by
  rw [Bool.eq_false_iff]
  intro he
  unfold endB at he
  rw [List.all_eq_true] at he
  have := he t (List.mem_range.2 ht)
  rw [h] at this; cases this
theorem isend_any (h : PgH) (L : Pg) (f : Nat → Nat) (w : World) (hL : progB L = true) (I : Inv L f) (r : Bool) (hr : Hid (endB L f = r)) :
    Calls Try.prog 105 #[PgV h L, .int .u64 (enc WS f : Nat)] w fun e w' => e = .returned (.bool r) ∧ Below w.heap.size w w' := by
  obtain ⟨h31, h32⟩ := prog_len hL
  obtain ⟨W, hW⟩ : ∃ W, W = w.alloc (.cells #[.slice h.A L.length h.c] 30) := ⟨_, rfl⟩
  have bW : Below w.heap.size w W := by rw [hW]; go_grown
  have KW := Lib.hid (show Bk W w.heap.size 30 #[.slice h.A L.length h.c] by rw [hW]; exact Bk.new _ _ _)
  have BW := Lib.hid bW
  have HW := Lib.hid hW
  have hz := bW.size
  have cb0 : W.cell? ⟨w.heap.size, 0, none⟩ = some (.slice h.A L.length h.c) := KW.out.cell 0
  have lb0 := KW.out.lt
  clear hW bW
  go_enter Try.func105, Try.ntmps105
  go_wp2_with fail
  rw [← HW.out]
  go_wp2_with fail
  clear cb0
  go_loopw [9] (fun i wr => ∃ k : Nat, k ≤ L.length ∧ i = .int .i64 k ∧ Below W.heap.size W wr ∧ Hid (∀ t, t < k → goB L f (t : Int) = false)) (fun i _ => L.length - (intOf i).toNat)
  case atStart => exact ⟨0, Nat.zero_le _, rfl, Below.refl _ _, Lib.hid (fun t ht => absurd ht (by omega))⟩
  case round =>
    obtain ⟨k, hk, rfl, hbel, hno⟩ := hrel
    have hz2 := hbel.size
    have HB := Lib.hid (below_on BW.out hbel)
    by_cases hlt : k < L.length
    · have hi1 : (k : Int) < (L.length : Int) := by omega
      have cb : wr.cell? ⟨w.heap.size, 0, none⟩ = some (.slice h.A L.length h.c) := (KW.out.below hbel KW.out.lt).cell 0
      have lb : w.heap.size < wr.heap.size := by omega
      have HBel := Lib.hid hbel
      clear hbel
      rcases Bool.eq_false_or_eq_true (goB L f (k : Int)) with hg | hg
      · have HA := Lib.hid ((able_bits I (k : Int)).trans hg)
        have e0 : r = false := by rw [← hr.out]; exact endB_not hlt hg
        subst e0
        clear hg
        go_wp2_with fail
        refine (able_any h L f (k : Int) wr I.good.ok h31 h32 true HA).mono ?_
        rintro e w3 ⟨rfl, hb3⟩
        have H3 := Lib.hid (below_on HB.out hb3)
        clear hb3 cb
        go_wp2
        go_ret
        exact ⟨rfl, H3.out⟩
      · have HA := Lib.hid ((able_bits I (k : Int)).trans hg)
        have HN := Lib.hid (show ∀ t, t < k + 1 → goB L f (t : Int) = false from fun t ht => by
          by_cases e : t = k
          · subst e; exact hg
          · exact hno.out t (by omega))
        clear hg hno
        go_wp2_with fail
        refine (able_any h L f (k : Int) wr I.good.ok h31 h32 false HA).mono ?_
        rintro e w3 ⟨rfl, hb3⟩
        have H3 := Lib.hid (below_on HBel.out hb3)
        clear hb3 cb
        go_wp2
        go_roundw
        case rel => exact ⟨k + 1, by omega, by go_num, H3.out, HN⟩
        case measure => simp [intOf]; omega
    · have hkl : k = L.length := by omega
      subst hkl
      have e0 : r = true := by rw [← hr.out]; exact endB_at hno.out
      subst e0
      clear hbel
      go_wp2
      go_ret
      exact ⟨rfl, HB.out⟩

end Go.Proofs.Ytiljakbjbiinkaa
namespace Go.Proofs.Ytiljakbjbiinkaa
open Go.RowKit Pl
set_option maxHeartbeats 4000000
set_option maxRecDepth 100000
set_option linter.unusedVariables false

theorem make_cap {t e : TypeId} {i : TypeInfo} {z : Value} (ht : Try.prog.underlying t = some (.slice e)) (hi : Try.prog.info? e = some i) (hz : i.zero = some z) (n : Nat) (hb : i.bytes * n ≤ 281474976710656) (h63 : n ≤ 9223372036854775807) (w : World) :
    (Instr.makeSlice t (.int .i64 0) (.int .i64 (n : Int))).run Try.prog w = .ok (.slice (some ⟨w.heap.size, 0, none⟩) 0 n) (w.alloc (.cells (madeCells z.cells (n * i.size)) e)) := by
  have hb' : (i.bytes : Int) * (n : Int) ≤ 281474976710656 := by
    have : ((i.bytes * n : Nat) : Int) ≤ 281474976710656 := by omega
    rwa [Int.natCast_mul] at this
  have hr := run_make (P := Try.prog) w t e i z ht hi hz .i64 .i64 (0 : Int) (n : Int) (by omega) (by omega) hb' (by omega)
  simpa only [Int.toNat_natCast, Int.toNat_zero] using hr
theorem own_form0 {w : World} {base n : Nat} {e : TypeId} {v v0 : Value} {xs : List Value} (h : w.ownsRow base e 1 v (0 + n) ([] ++ xs)) (hi : v = .slice none 0 0 ↔ v0 = .slice none 0 0 ∧ n = 0) (h0 : v0 ≠ .slice none 0 0) :
    ∃ g cap, v = .slice (some ⟨g, 0, none⟩) n cap ∧ base ≤ g ∧ w.ownsRow base e 1 (.slice (some ⟨g, 0, none⟩) n cap) n xs := by
  rw [Nat.zero_add, List.nil_append] at h
  have h' := h
  rcases h.2 with ⟨h1, _⟩ | ⟨g, cap, cur, e1, e2, _⟩
  · exact absurd (hi.1 h1).1 h0
  · rw [e1] at h'
    exact ⟨g, cap, e1, e2, h'⟩
end Go.Proofs.Ytiljakbjbiinkaa
namespace Go.Proofs.Ytiljakbjbiinkaa
open Go.RowKit Pl
set_option maxHeartbeats 2000000
set_option maxRecDepth 100000
set_option linter.unusedVariables false

/-- The whole orders that go on from a word and an order, by so many statements more at most. -/
def ordP (L : Pg) : Nat → (Nat → Nat) → List Int → List (List Int)
  | 0, _, acc => [acc]
  | m + 1, f, acc => if endB L f then [acc] else (List.range L.length).flatMap fun (t : Nat) => if goB L f (t : Int) then ordP L m (stepF L f t) (acc ++ [(t : Int)]) else []
/-- What threads below t give. -/
def ordK (L : Pg) (m : Nat) (f : Nat → Nat) (acc : List Int) (t : Nat) : List (List Int) := (List.range t).flatMap fun (t : Nat) => if goB L f (t : Int) then ordP L m (stepF L f t) (acc ++ [(t : Int)]) else []
theorem ordK_succ (L : Pg) (m : Nat) (f : Nat → Nat) (acc : List Int) (t : Nat) : ordK L m f acc (t + 1) = ordK L m f acc t ++ if goB L f (t : Int) then ordP L m (stepF L f t) (acc ++ [(t : Int)]) else [] := by
  unfold ordK
  rw [List.range_succ, List.flatMap_append]
  simp
/-- How many statements are left at most. -/
def slack (L : Pg) (f : Nat → Nat) : Nat := (L.getD 0 []).length + (L.getD 1 []).length + (L.getD 2 []).length - (f (3 + 0) + f (3 + 1) + f (3 + 2))
theorem slack_step {L : Pg} {f : Nat → Nat} {t : Nat} (hL : progB L = true) (I : Inv L f) (ht : t < L.length) (hc : canF L f t = true) : slack L (stepF L f t) < slack L f := by
  obtain ⟨h31, h32⟩ := prog_len hL
  have I2 := inv_step hL I ht hc
  have h2 := next_gt (x := smAt L t (f (3 + t))) (can_more I.good ht hc)
  have a0 := at_le I2 (t := 0) (by omega)
  have a1 := at_le I2 (t := 1) (by omega)
  have a2 := at_le I2 (t := 2) (by omega)
  unfold slack
  rw [step_at h32 (by omega)] at a0 a1 a2
  rw [step_at h32 (by omega), step_at h32 (by omega), step_at h32 (by omega)]
  have ht3 : t = 0 ∨ t = 1 ∨ t = 2 := by omega
  rcases ht3 with rfl | rfl | rfl
  · rw [if_pos rfl] at a0
    rw [if_neg (show ¬ (1 : Nat) = 0 by omega)] at a1
    rw [if_neg (show ¬ (2 : Nat) = 0 by omega)] at a2
    rw [if_pos rfl, if_neg (show ¬ (1 : Nat) = 0 by omega), if_neg (show ¬ (2 : Nat) = 0 by omega)]; omega
  · rw [if_neg (show ¬ (0 : Nat) = 1 by omega)] at a0
    rw [if_pos rfl] at a1
    rw [if_neg (show ¬ (2 : Nat) = 1 by omega)] at a2
    rw [if_pos rfl, if_neg (show ¬ (0 : Nat) = 1 by omega), if_neg (show ¬ (2 : Nat) = 1 by omega)]; omega
  · rw [if_neg (show ¬ (0 : Nat) = 2 by omega)] at a0
    rw [if_neg (show ¬ (1 : Nat) = 2 by omega)] at a1
    rw [if_pos rfl] at a2
    rw [if_pos rfl, if_neg (show ¬ (0 : Nat) = 2 by omega), if_neg (show ¬ (1 : Nat) = 2 by omega)]; omega
theorem slack_end {L : Pg} {f : Nat → Nat} (hL : progB L = true) (I : Inv L f) (h : slack L f = 0) : endB L f = true := by
  refine endB_at fun t ht => ?_
  rw [Bool.eq_false_iff]
  intro hg
  obtain ⟨u, hu, hul, hc⟩ := goB_parts hg
  have := slack_step hL I hul hc
  omega
theorem slack_beg {L : Pg} (hL : progB L = true) : slack L (keptF L zeroF L.length) ≤ 9 := by
  obtain ⟨h31, h32⟩ := prog_len hL
  have h2 := total3 h32
  have h3 : total L ≤ 9 := by
    have hp := hL
    unfold progB at hp
    simp only [Bool.and_eq_true, decide_eq_true_eq] at hp
    exact hp.2.2
  unfold slack
  omega

/-- Two functions of an index, the second one from n on. -/
def catF (n : Nat) (D D2 : Nat → Nat) : Nat → Nat := fun j => if j < n then D j else D2 (j - n)
theorem headsC_cat (Ls Ms : List (List Int)) (D C D2 C2 : Nat → Nat) : headsC (Ls ++ Ms) (catF Ls.length D D2) (catF Ls.length C C2) = headsC Ls D C ++ headsC Ms D2 C2 := by
  apply List.ext_getElem?
  intro j
  by_cases h1 : j < Ls.length
  · rw [List.getElem?_append_left (by rw [headsC_length]; exact h1)]
    have e1 : Ls[j]? = some Ls[j] := List.getElem?_eq_getElem h1
    have e2 : (Ls ++ Ms)[j]? = some Ls[j] := by rw [List.getElem?_append_left h1]; exact e1
    rw [headsC_at e1, headsC_at e2]
    unfold catF
    rw [if_pos h1, if_pos h1]
  · by_cases h2 : j < Ls.length + Ms.length
    · rw [List.getElem?_append_right (by rw [headsC_length]; omega), headsC_length]
      have h3 : j - Ls.length < Ms.length := by omega
      have e1 : Ms[j - Ls.length]? = some Ms[j - Ls.length] := List.getElem?_eq_getElem h3
      have e2 : (Ls ++ Ms)[j]? = some Ms[j - Ls.length] := by rw [List.getElem?_append_right (by omega)]; exact e1
      rw [headsC_at e1, headsC_at e2]
      unfold catF
      rw [if_neg h1, if_neg h1]
    · rw [List.getElem?_eq_none (by rw [headsC_length, List.length_append]; omega), List.getElem?_eq_none (by rw [List.length_append, headsC_length, headsC_length]; omega)]
theorem RowsI.cat {w : World} {lo mid hi : Nat} {Ls Ms : List (List Int)} {D D2 : Nat → Nat} (h : RowsI w lo mid Ls D) (h2 : RowsI w mid hi Ms D2) (hl : lo ≤ mid) (hm : mid ≤ hi) : RowsI w lo hi (Ls ++ Ms) (catF Ls.length D D2) := by
  refine ⟨fun j xs hj => ?_, fun i j hij hj => ?_⟩
  · unfold catF
    by_cases h1 : j < Ls.length
    · rw [List.getElem?_append_left h1] at hj
      obtain ⟨a, b, r⟩ := h.1 j xs hj
      rw [if_pos h1]; exact ⟨a, by omega, r⟩
    · rw [List.getElem?_append_right (by omega)] at hj
      obtain ⟨a, b, r⟩ := h2.1 _ xs hj
      rw [if_neg h1]; exact ⟨by omega, b, r⟩
  · rw [List.length_append] at hj
    unfold catF
    by_cases h1 : j < Ls.length
    · rw [if_pos h1, if_pos (by omega)]; exact h.2 i j hij h1
    · rw [if_neg h1]
      have hx2 : Ms[j - Ls.length]? = some Ms[j - Ls.length] := List.getElem?_eq_getElem (by omega)
      have b2 := (h2.1 _ _ hx2).1
      by_cases h3 : i < Ls.length
      · rw [if_pos h3]
        have b1 := (h.1 i _ (List.getElem?_eq_getElem h3)).2.1
        omega
      · rw [if_neg h3]; exact h2.2 _ _ (by omega) (by omega)
end Go.Proofs.Ytiljakbjbiinkaa
