/-
  Contracts of the laws' marks and held marks over whole programs.
-/
import Derived.Test.YtaghidaamcnpkaaMark
namespace Go.Proofs.Ytaghidaamcnpkaa
open Go.RowKit Pl
set_option maxHeartbeats 400000
set_option linter.unusedVariables false

theorem total_take_succ {L : List (List Sm)} {k : Nat} {xs : List Sm} (h : L[k]? = some xs) : total (L.take (k + 1)) = total (L.take k) + xs.length := by
  rw [List.take_add_one, h]
  simp [total]
theorem total_take_le (L : List (List Sm)) (k : Nat) : total (L.take k) ≤ total L := by
  have : total L = total (L.take k) + total (L.drop k) := by
    simp only [total, List.map_take, List.map_drop]
    rw [← List.sum_append, List.take_append_drop]
  omega
theorem numsL_at {L : List (List Sm)} : ∀ {K : Int} {i : Nat} {xs : List Sm}, L[i]? = some xs → (numsL K (L.map List.length))[i]? = some (nums (K + 5 * (total (L.take i) : Int)) xs.length) := by
  induction L with
  | nil => intro K i xs h; simp at h
  | cons y r ih =>
    intro K i xs h
    cases i with
    | zero => simp at h; subst h; simp [numsL, total]
    | succ i =>
      simp at h
      rw [List.map_cons, numsL, List.getElem?_cons_succ, ih h, List.take_succ_cons, total_cons]
      congr 2
      rw [Int.natCast_add]; omega
theorem numsL_length (L : List Nat) : ∀ K : Int, (numsL K L).length = L.length := by
  induction L with
  | nil => intro K; rfl
  | cons y r ih => intro K; simp [numsL, ih]

/-- What marks over a program have come to behind k threads. -/
def MarkSS (w wr : World) (lo hi g : Nat) (cs : Array Value) (D : Nat → Option Addr) (L : List (List Sm)) (K : Int) (k : Nat) : Prop :=
  Only lo hi w wr ∧ Bk wr g 44 cs ∧ ∀ (i : Nat) (xs : List Sm), L[i]? = some xs → OwnRow wr lo hi (D i) (if i < k then nums (K + 5 * (total (L.take i) : Int)) xs.length else xs)
theorem MarkSS.next {w wr w1 : World} {lo hi g : Nat} {cs : Array Value} {D : Nat → Option Addr} {L : List (List Sm)} {K : Int} {k gk : Nat} {xs : List Sm} (h : MarkSS w wr lo hi g cs D L K k)
    (hd : ∀ i j xs ys, i < j → L[i]? = some xs → L[j]? = some ys → 0 < xs.length → 0 < ys.length → D i ≠ D j) (hx : L[k]? = some xs) (h0 : 0 < xs.length) (hDk : D k = some ⟨gk, 0, none⟩) (hlo : lo ≤ gk) (hhi : gk < hi) (hb : ∃ c0, Bk wr gk 46 c0)
    (hm : MarkS wr w1 gk (K + 5 * (total (L.take k) : Int)) xs.length xs.length) : MarkSS w w1 lo hi g cs D L K (k + 1) := by
  obtain ⟨o, b, r⟩ := h
  obtain ⟨c0, hb⟩ := hb
  have hne : g ≠ gk := by
    intro e; subst e
    unfold Bk at b hb; rw [b] at hb
    injection hb with hb; injection hb with _ hb; cases hb
  have hkeep : ∀ q, q ≠ gk → q < wr.heap.size → w1.heap[q]? = wr.heap[q]? := fun q hq hql => hm.1.block q hql (by omega)
  refine ⟨o.trans (hm.1.mono hlo (by omega)), (hkeep g hne b.lt).trans b, fun i ys hi => ?_⟩
  by_cases e : i = k
  · subst e
    obtain rfl : xs = ys := by rw [hx] at hi; injection hi
    rw [if_pos (by omega), hDk]
    exact hm.done.keep hlo (by omega) fun _ _ _ => rfl
  · have hr := r i ys hi
    have e2 : (if i < k + 1 then nums (K + 5 * (total (L.take i) : Int)) ys.length else ys) = if i < k then nums (K + 5 * (total (L.take i) : Int)) ys.length else ys := by
      by_cases h1 : i < k
      · rw [if_pos h1, if_pos (by omega)]
      · rw [if_neg h1, if_neg (by omega)]
    rw [e2]
    intro hn
    obtain ⟨q, cq, hA, h1, h2, h3, h4⟩ := hr hn
    have hyl : 0 < ys.length := by
      by_cases h5 : i < k
      · rw [if_pos h5, nums_length] at hn; exact hn
      · rw [if_neg h5] at hn; exact hn
    refine ⟨q, cq, hA, h1, h2, (hkeep q (fun e3 => ?_) h3.lt).trans h3, h4⟩
    subst e3
    rcases Nat.lt_or_ge i k with h6 | h6
    · exact hd i k ys xs h6 hi hx hyl h0 (by rw [hA, hDk])
    · exact hd k i xs ys (by omega) hx hi h0 hyl (by rw [hA, hDk])
theorem MarkSS.skip {w wr : World} {lo hi g : Nat} {cs : Array Value} {D : Nat → Option Addr} {L : List (List Sm)} {K : Int} {k : Nat} {xs : List Sm} (h : MarkSS w wr lo hi g cs D L K k) (hx : L[k]? = some xs) (h0 : xs.length = 0) : MarkSS w wr lo hi g cs D L K (k + 1) := by
  obtain ⟨o, b, r⟩ := h
  refine ⟨o, b, fun i ys hi => ?_⟩
  by_cases e : i = k
  · subst e
    obtain rfl : xs = ys := by rw [hx] at hi; injection hi
    intro hn
    rw [if_pos (by omega), nums_length] at hn
    omega
  · have e2 : (if i < k + 1 then nums (K + 5 * (total (L.take i) : Int)) ys.length else ys) = if i < k then nums (K + 5 * (total (L.take i) : Int)) ys.length else ys := by
      by_cases h1 : i < k
      · rw [if_pos h1, if_pos (by omega)]
      · rw [if_neg h1, if_neg (by omega)]
    rw [e2]; exact r i ys hi

/-- What marks over a program come to. -/
def Marked (w : World) (lo hi : Nat) (A : Option Addr) (L : List (List Sm)) (K : Int) (e : Ending) (w' : World) : Prop :=
  e = .returned (.int .i64 (K + 5 * (total L : Int))) ∧ Only lo hi w w' ∧ OwnRows2 w' lo hi A (numsL K (L.map List.length))

end Go.Proofs.Ytaghidaamcnpkaa
