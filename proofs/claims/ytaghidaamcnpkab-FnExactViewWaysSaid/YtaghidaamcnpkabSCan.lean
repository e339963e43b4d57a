/-
  What the reference model's Can comes to: the same as the program's.
-/
import Derived.Test.YtaghidaamcnpkabSNext
namespace Go.Proofs.Ytaghidaamcnpkab
open Go.RowKit Pl Go.BigFrame
set_option maxHeartbeats 4000000
set_option maxRecDepth 100000
set_option linter.unusedVariables false

theorem getD_lim {xs : List Int} {lo hi : Int} (h : ∀ (k : Nat) (x : Int), xs[k]? = some x → lo ≤ x ∧ x ≤ hi) {i : Nat} (hi_ : i < xs.length) : lo ≤ xs.getD i 0 ∧ xs.getD i 0 ≤ hi := by
  have h1 : xs[i]? = some xs[i] := List.getElem?_eq_getElem hi_
  rw [getD_at h1]
  exact h i _ h1
theorem wait_ok {L : Pg} {s : Sta} (P : StP L s) {t : Nat} {x : Sm} (hx : x.okb = true) : waitF (pkF s) t x = !okZ s t x := by
  unfold waitF okZ
  by_cases h6 : x.k = 6
  · rw [if_pos h6, if_pos h6]
    obtain ⟨n, hn, ha⟩ := ok_lock hx (Or.inl h6)
    rw [ha, Int.toNat_natCast, pk_own P hn]
    have := getD_lim P.v3 (i := n) (by have := P.m3; omega)
    rw [Bool.eq_iff_iff]; simp; omega
  rw [if_neg h6, if_neg h6]
  by_cases h7 : x.k = 7
  · rw [if_pos h7, if_pos h7]
    obtain ⟨n, hn, ha⟩ := ok_lock hx (Or.inr (Or.inl h7))
    rw [ha, Int.toNat_natCast, pk_own P hn]
    have := getD_lim P.v3 (i := n) (by have := P.m3; omega)
    rw [Bool.eq_iff_iff]; simp; omega
  rw [if_neg h7, if_neg h7]
  by_cases h8 : x.k = 8
  · rw [if_pos h8, if_pos h8]
    obtain ⟨n, hn, ha⟩ := ok_lock hx (Or.inr (Or.inr h8))
    rw [ha, Int.toNat_natCast, pk_chan P hn]
    have := getD_lim P.v4 (i := n) (by have := P.m4; omega)
    rw [Bool.eq_iff_iff]; simp; omega
  rw [if_neg h8, if_neg h8]
  by_cases h9 : x.k = 9
  · rw [if_pos h9, if_pos h9]
    obtain ⟨n, hn, hb⟩ := ok_get hx h9
    rw [hb, Int.toNat_natCast, pk_chan P hn]
    have := getD_lim P.v4 (i := n) (by have := P.m4; omega)
    rw [Bool.eq_iff_iff]; simp; omega
  rw [if_neg h9, if_neg h9]
  rfl
theorem can_nx {L : Pg} {s : Sta} (P : StP L s) {t : Nat} (ht : t < L.length) : canF L (pkF s) t = nxZ L s t := by
  have hx : L[t]? = some L[t] := List.getElem?_eq_getElem ht
  obtain ⟨xs, hxs⟩ : ∃ xs, L[t]? = some xs := ⟨_, hx⟩
  obtain ⟨i, hi, h0, h1⟩ := atZ_at P.at_ hxs
  unfold canF nxZ
  rw [pk_at P ht, getD_at hi, getD_some hxs]
  by_cases hl : i < (xs.length : Int)
  · have hn : i.toNat < xs.length := by omega
    have hxi : xs[i.toNat]? = some xs[i.toNat] := List.getElem?_eq_getElem hn
    have hsm : smAt L t i.toNat = xs[i.toNat] := by unfold smAt; rw [getD_some hxs]; exact getD_some hxi
    have hok := (prog_thr P.prog hxs).2 _ _ hxi
    rw [hsm, wait_ok P hok]
    have e : (i.toNat == xs.length) = false := by rw [beq_eq_false_iff_ne]; omega
    rw [e]; simp [hl]
  · have e : i.toNat = xs.length := by omega
    simp [e, hl]
end Go.Proofs.Ytaghidaamcnpkab
