/-
  What the reference model's Orders comes to, whole: its walk by induction, and the list of all orders.
-/
import Derived.Test.YtiljakbjbiinkaaOFrom
import Derived.Test.YtiljakbjbiinkaaSFrom
import Derived.Deep.RegionHeld3
import Derived.Deep.RegionLaw
import Derived.Deep.DeepCutAuto
namespace Go.Proofs.Ytiljakbjbiinkaa
open Go.RowKit Pl
set_option maxHeartbeats 4000000
set_option maxRecDepth 100000
set_option linter.unusedVariables false

/-- Whole orders of the call's own. -/
def OrdW (w : World) (Ls : List (List Int)) (v : Value) (w' : World) : Prop :=
  ∃ (g cap : Nat) (D C : Nat → Nat), v = .slice (some ⟨g, 0, none⟩) Ls.length cap ∧ Below w.heap.size w w' ∧ w.heap.size ≤ g ∧ w'.ownsRow w.heap.size 39 1 (.slice (some ⟨g, 0, none⟩) Ls.length cap) Ls.length (headsC Ls D C) ∧ RowsI w' w.heap.size w'.heap.size Ls D
theorem acc_nil {w w' : World} {g : Nat} (hb : Bk w g 3 #[]) (h : Below w.heap.size w w') : AccAt w' g [] := ⟨#[], hb.below h hb.lt, fun a v h => by simp [ints] at h⟩
def ordE (L : Pg) : List (List Int) := if progB L then ordP L 9 (keptF L zeroF L.length) [] else []
/-- Lists of numbers of the call's own, as a law takes them. -/
def AnsIs1 (w : World) (o : List (List Int)) (e : Ending) (w' : World) : Prop :=
  ∃ k : IssH, e = .returned (IssV k o) ∧ Below w.heap.size w w' ∧ w.heap.size ≤ w'.heap.size ∧ IssO w' w.heap.size w'.heap.size k o
theorem OrdW.iss {w w' : World} {Ls : List (List Int)} {v : Value} (h : OrdW w Ls v w') : AnsIs1 w Ls (.returned v) w' := by
  obtain ⟨g, cap, D, C, rfl, hb, hg, ho, hr⟩ := h
  exact ⟨⟨some ⟨g, 0, none⟩, cap⟩, rfl, hb, hb.size, ⟨rowsC_own (own_vs ho rfl) hr⟩⟩
theorem ordP_rows {L : Pg} : ∀ (m : Nat) (f : Nat → Nat) (acc : List Int), ∀ x ∈ ordP L m f acc, x.length ≤ acc.length + m := by
  intro m
  induction m with
  | zero => intro f acc x hx; simp [ordP] at hx; subst hx; omega
  | succ m ih =>
    intro f acc x hx
    unfold ordP at hx
    split at hx
    · simp at hx; subst hx; omega
    · rw [List.mem_flatMap] at hx
      obtain ⟨t, _, hx⟩ := hx
      split at hx
      · have := ih _ _ x hx
        rw [List.length_append, List.length_singleton] at this
        omega
      · cases hx
theorem ordE_small {L : Pg} (_ : PgS L) : IssS (ordE L) := by
  unfold ordE
  split
  · rename_i hp
    obtain ⟨h31, h32⟩ := prog_len hp
    have h1 := ordP_len h32 9 (keptF L zeroF L.length) []
    have h2 := tot_le (L := ordP L 9 (keptF L zeroF L.length) []) (m := 9) fun x hx => by have := ordP_rows 9 _ _ x hx; simpa using this
    have h3 : (3 : Nat) ^ 9 = 19683 := by decide
    exact ⟨by omega, by omega⟩
  · exact ⟨by simp, by simp [tot]⟩
end Go.Proofs.Ytiljakbjbiinkaa
namespace Go.Proofs.Ytiljakbjbiinkaa
open Go.RowKit Pl Go.BigFrame
set_option maxHeartbeats 8000000
set_option maxRecDepth 100000
set_option linter.unusedVariables false

theorem goB_can {L : Pg} {f : Nat → Nat} {t : Nat} (ht : t < L.length) : goB L f (t : Int) = canF L f t := by
  unfold goB
  rw [show inB (t : Int) 0 ((L.length : Int) - 1) = true by simp [inB]; omega, Int.toNat_natCast, Bool.true_and]
theorem enK_endB (L : Pg) (f : Nat → Nat) : enK L f L.length = endB L f := by
  unfold enK endB
  rw [Bool.eq_iff_iff, List.all_eq_true, List.all_eq_true]
  exact ⟨fun h t ht => by rw [goB_can (List.mem_range.1 ht)]; exact h t ht, fun h t ht => by have := h t ht; rwa [goB_can (List.mem_range.1 ht)] at this⟩
theorem endOr_zero {L : Pg} {f : Nat → Nat} {acc : List Int} (ch : Nat → List (List Int)) (he : endB L f = true) : endOr L f acc ch = [acc] := by
  unfold endOr
  rw [enK_endB, he]
  rfl
theorem endOr_succ (L : Pg) (m : Nat) (f : Nat → Nat) (acc : List Int) : endOr L f acc (fun t => ordP L m (stepF L f t) (acc ++ [(t : Int)])) = ordP L (m + 1) f acc := by
  have e : ordP L (m + 1) f acc = if endB L f then [acc] else (List.range L.length).flatMap fun (t : Nat) => if goB L f (t : Int) then ordP L m (stepF L f t) (acc ++ [(t : Int)]) else [] := rfl
  rw [e]
  unfold endOr
  rw [enK_endB]
  by_cases he : endB L f = true
  · rw [if_pos he, if_pos he]
  · rw [if_neg he, if_neg he]
    unfold chK
    simp only [List.flatMap_def]
    congr 1
    refine List.map_congr_left fun t ht => ?_
    rw [goB_can (List.mem_range.1 ht)]
theorem from_any (h : PgH) (L : Pg) (hL : progB L = true) (zw B : Nat) (hB : B ≤ zw) : ∀ (m : Nat) (f : Nat → Nat) (acc : List Int), Inv L f → slack L f ≤ m → acc.length + m ≤ 100 →
    ∀ (hk : StaH) (lo hi ga c : Nat) (A : Option Addr) (cap : Nat) (Ls : List (List Int)) (D C : Nat → Nat) (w : World), PgR w B h L → Wl w zw h L A cap Ls D C ga → StaI w lo hi hk (staF L f) → zw < lo → hi ≤ w.heap.size → (∀ q, some q = (Value.slice A Ls.length cap).ownBlock → q < lo ∨ hi ≤ q) → AccAt w ga acc → zw < ga → Ls.length + (ordP L m f acc).length ≤ 1000000 →
      Calls Try.prog 172 #[.pointer (some ⟨zw, 0, none⟩), StaV hk (staF L f), .slice (some ⟨ga, 0, none⟩) acc.length c] w (FromP w zw h L A cap Ls (ordP L m f acc)) := by
  intro m
  induction m with
  | zero =>
    intro f acc I hs ha hk lo hi ga c A cap Ls D C w hP hW hS hzl hhi hob hA hzg hn
    have he := slack_end hL I (by omega)
    have e0 : endOr L f acc (fun _ => []) = ordP L 0 f acc := endOr_zero _ he
    rw [← e0] at hn ⊢
    refine from_body h L hL zw B f acc (fun _ => []) I (by omega) hB ?_ hk lo hi ga c A cap Ls D C w hP hW hS hzl hhi hob hA hzg hn
    intro t ht hc
    have := endB_not (f := f) ht (by rw [goB_can ht]; exact hc)
    rw [he] at this
    cases this
  | succ m ih =>
    intro f acc I hs ha hk lo hi ga c A cap Ls D C w hP hW hS hzl hhi hob hA hzg hn
    rw [← endOr_succ] at hn ⊢
    refine from_body h L hL zw B f acc _ I (by omega) hB ?_ hk lo hi ga c A cap Ls D C w hP hW hS hzl hhi hob hA hzg hn
    intro t ht hc hk lo hi ga c A cap Ls D C w hP hW hS hzl hhi hob hA hzg hn
    have hst := slack_step hL I ht hc
    have := ih (stepF L f t) (acc ++ [(t : Int)]) (inv_step hL I ht hc) (by omega) (by rw [List.length_append, List.length_singleton]; omega) hk lo hi ga c A cap Ls D C w hP hW hS hzl hhi hob hA hzg hn
    rw [List.length_append, List.length_singleton] at this
    exact this
theorem orders_any (h : PgH) (L : Pg) (hL : progB L = true) (w : World) (B : Nat) (hP : PgR w B h L) (hB : B ≤ w.heap.size) :
    Calls Try.prog 120 #[PgV h L] w (AnsIs1 w (ordP L 9 (keptF L zeroF L.length) [])) := by
  obtain ⟨h31, h32⟩ := prog_len hL
  obtain ⟨W, hW⟩ : ∃ W, W = w.alloc (.cells #[.slice h.A L.length h.c] 30) := ⟨_, rfl⟩
  have bW : Below w.heap.size w W := by rw [hW]; go_grown
  have sW : W.heap.size = w.heap.size + 1 := by rw [hW]; simp
  have sWa := Nat.le_of_eq sW
  have sWb := Nat.le_of_eq sW.symm
  have k0 : Bk W w.heap.size 30 #[.slice h.A L.length h.c] := by rw [hW]; exact Bk.new _ _ _
  have K0 := Lib.hid k0
  have RW := Lib.hid (hP.below bW hB)
  have BW := Lib.hid bW
  have hBW : B ≤ W.heap.size := Nat.le_trans hB bW.size
  have HW := Lib.hid hW
  have HL := Lib.hid hL
  have c0 := k0.cell 0
  have l0 := k0.lt
  clear hW bW hP k0
  go_enter Try.func120, Try.ntmps120
  go_wp2_with fail
  rw [← HW.out]
  go_wp2_with fail
  obtain ⟨X, hX⟩ : ∃ X, X = W.alloc (.cells #[.slice h.A L.length h.c, .slice none 0 0] 205) := ⟨_, rfl⟩
  rw [← hX]
  have bX : Below W.heap.size W X := by rw [hX]; go_grown
  have zX : X.heap.size = w.heap.size + 1 + 1 := by rw [hX]; simp [sW]
  have kX : Bk X (w.heap.size + 1) 205 #[.slice h.A L.length h.c, .slice none 0 0] := by rw [hX, ← sW]; exact Bk.new _ _ _
  have RX := Lib.hid (RW.out.below bX hBW)
  have BX := Lib.hid (below_on BW.out bX)
  have KX := Lib.hid kX
  have zXa := Nat.le_of_eq zX
  have zXb := Nat.le_of_eq zX.symm
  clear hX bX kX c0 zX sW
  refine (sbegin0_any h L X h31 h32).mono ?_
  rintro e w2 ⟨hs, rfl, hb2, hz2, oi⟩
  rw [← staF_beg L h32] at oi ⊢
  have K2 := Lib.hid (KX.out.below hb2 KX.out.lt)
  have R2 := Lib.hid (RX.out.below hb2 (by omega))
  have B2 := Lib.hid (below_on BX.out hb2)
  have OI := Lib.hid oi
  clear oi hb2
  go_wp2_with fail
  obtain ⟨V, hV⟩ : ∃ V, V = w2.alloc (.cells #[] 3) := ⟨_, rfl⟩
  rw [← hV]
  have bV : Below w2.heap.size w2 V := by rw [hV]; go_grown
  have zV : V.heap.size = w2.heap.size + 1 := by rw [hV]; simp
  have aV : AccAt V w2.heap.size [] := by rw [hV]; exact acc_nil (Bk.new w2 #[] 3) (Below.refl _ _)
  have hl9 := ordP_len h32 9 (keptF L zeroF L.length) []
  refine (from_any h L HL.out (w.heap.size + 1) B (by omega) 9 (keptF L zeroF L.length) [] (inv_beg HL.out) (slack_beg HL.out) (by simp) hs X.heap.size w2.heap.size w2.heap.size 0 none 0 [] (fun _ => 0) (fun _ => 0) V (R2.out.below bV (by omega)) ⟨K2.out.below bV (by omega), ⟨by simp [headsC], Or.inl ⟨rfl, rfl⟩⟩, RowsI.nil _ _ _ _⟩ (OI.out.below bV (Nat.le_refl _)) (by omega) (by omega) (fun q e => by simp [Value.ownBlock] at e) aV (by omega) (by rw [List.length_nil]; omega)).mono ?_
  rintro e w3 ⟨rfl, hb3, hz3, -, A1, cap1, D, C, hw3, -⟩
  rw [List.nil_append] at hw3
  have B3 := Lib.hid ((below_on B2.out bV).trans (hb3.mono (Nat.le_succ _)))
  have W3 := Lib.hid hw3
  have c1 : w3.cell? ⟨w.heap.size + 1, 1, none⟩ = some (.slice A1 (ordP L 9 (keptF L zeroF L.length) []).length cap1) := hw3.bx.cell 1
  have l1 := hw3.bx.lt
  have Fin := Lib.hid (show IssO w3 w.heap.size w3.heap.size ⟨A1, cap1⟩ (ordP L 9 (keptF L zeroF L.length) []) from ⟨rowsC_own (own_vs (Joins.ownsRow_le hw3.own (by omega)) rfl) (hw3.rows.keep (by omega) (Nat.le_refl _) fun _ _ _ _ _ => rfl)⟩)
  clear hV bV aV hb3 hw3
  go_wp2
  go_ret
  exact ⟨⟨A1, cap1⟩, rfl, B3.out, B3.out.size, Fin.out⟩
end Go.Proofs.Ytiljakbjbiinkaa
