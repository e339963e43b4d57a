/-
  What the program's Do comes to.
-/
import Derived.Test.YtnadihepgmbhaaaSteppd
import Derived.Test.YtnadihepgmbhaaaICan
namespace Go.Proofs.Ytnadihepgmbhaaa
open Go.RowKit Pl
set_option maxHeartbeats 4000000
set_option maxRecDepth 100000
set_option linter.unusedVariables false

/-- The state behind the next statement of a thread. -/
def doB (L : Pg) (s : Sta) (th : Int) : Sta := if canB L s th then staF L (stepF L (wdF L s) th.toNat) else StaE
theorem stepF_good {L : Pg} {f : Nat → Nat} {t : Nat} (hL : progB L = true) (hf : Good L f) (ht : t < L.length) (hc : canF L f t = true) (h4 : ∀ n, n < 2 → f (20 + n) ≤ 4) : Good L (stepF L f t) := by
  obtain ⟨h31, h32⟩ := prog_len hL
  obtain ⟨xs, hxs⟩ : ∃ xs, L[t]? = some xs := ⟨L[t], List.getElem?_eq_getElem ht⟩
  have hd : L.getD t [] = xs := getD_some hxs
  have hle := hf.at_ t xs hxs
  unfold canF at hc
  rw [hd] at hc
  have hml : f (3 + t) < xs.length := by
    have : f (3 + t) ≠ xs.length := by intro e; rw [e] at hc; simp at hc
    omega
  obtain ⟨hx6, hxok⟩ := prog_thr hL hxs
  have hsx : smAt L t (f (3 + t)) = xs[f (3 + t)] := by unfold smAt; rw [hd]; simp [List.getD, hml]
  have hok : (smAt L t (f (3 + t))).okb = true := by rw [hsx]; exact hxok _ _ (List.getElem?_eq_getElem hml)
  have hn : nextF L f t (smAt L t (f (3 + t))) ≤ xs.length := by have := nextF_le (L := L) (f := f) (t := t) (x := smAt L t (f (3 + t))) (by rw [hd]; exact hml); rwa [hd] at this
  unfold stepF
  refine keptF_good ?_ h32
  generalize hx : smAt L t (f (3 + t)) = x at *
  generalize nextF L f t x = nx at *
  have hok1 : okF WS (upd f (3 + t) nx) := okF_upd fld0 hf.ok (i := t) (show t < 3 by omega) (show nx < 8 by omega)
  refine ⟨affF_ok hok1 (by omega) hok fun hk n hn' => ?_, fun u ys hu => ?_⟩
  · obtain ⟨n', hn2, hb'⟩ := ok_get hok hk
    have : n = n' := by omega
    subst this
    have e : (upd f (3 + t) nx) (20 + n) = f (20 + n) := by unfold upd; rw [if_neg (by omega)]
    rw [e]
    refine ⟨?_, h4 n hn2⟩
    have hw : waitF f t x = (f (20 + n) == 0) := by unfold waitF; rw [hk, hn']; simp
    rw [hw] at hc
    have h0 : f (20 + n) ≠ 0 := by intro e; rw [e] at hc; simp at hc
    omega
  · have hu3 : u < 3 := by have := (List.getElem?_eq_some_iff.1 hu).1; omega
    rw [affF_lo (by omega)]
    unfold upd
    by_cases e : 3 + u = 3 + t
    · rw [if_pos e]
      have e' : u = t := by omega
      subst e'
      rw [hxs] at hu; injection hu with hu; subst hu; exact hn
    · rw [if_neg e]; exact hf.at_ u ys hu

end Go.Proofs.Ytnadihepgmbhaaa
