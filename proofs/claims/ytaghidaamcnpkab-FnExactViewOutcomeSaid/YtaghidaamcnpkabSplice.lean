/-
  The contract of the program's spliced: a new thread of the call's own, the statements of one list put in between those of another one.
-/
import Derived.Test.YtaghidaamcnpkabCopy
namespace Go.Proofs.Ytaghidaamcnpkab
open Go.RowKit Pl
set_option maxHeartbeats 400000
set_option linter.unusedVariables false

theorem addr_add' (b off n : Nat) : (⟨b, off, none⟩ : Addr).add n = ⟨b, off + n, none⟩ := by
  unfold Addr.add
  split <;> simp_all
def flat (xs : List Sm) : List Value := xs.flatMap Sm.cells
theorem flat_length (xs : List Sm) : (flat xs).length = xs.length * 5 := by
  induction xs with
  | nil => rfl
  | cons x r ih =>
    rw [flat, List.flatMap_cons, List.length_append]
    have : (List.flatMap Sm.cells r).length = r.length * 5 := ih
    rw [this]
    simp [Sm.cells]; omega
theorem flat_append (xs ys : List Sm) : flat (xs ++ ys) = flat xs ++ flat ys := by simp [flat]
theorem flat_at {xs : List Sm} {j : Nat} {x : Sm} (h : xs[j]? = some x) : (flat xs)[j * 5]? = some (.int .i64 x.k) ∧ (flat xs)[j * 5 + 1]? = some (.int .i64 x.a) ∧ (flat xs)[j * 5 + 2]? = some (.int .i64 x.b) ∧ (flat xs)[j * 5 + 3]? = some (.int .i64 x.c) ∧ (flat xs)[j * 5 + 4]? = some (.bool x.s) := by
  induction xs generalizing j with
  | nil => simp at h
  | cons y r ih =>
    have hf : flat (y :: r) = y.cells ++ flat r := by simp [flat]
    have hl : y.cells.length = 5 := rfl
    rw [hf]
    cases j with
    | zero =>
      simp at h; subst h
      exact ⟨rfl, rfl, rfl, rfl, rfl⟩
    | succ j =>
      simp at h
      obtain ⟨h0, h1, h2, h3, h4⟩ := ih h
      refine ⟨?_, ?_, ?_, ?_, ?_⟩
      · rw [List.getElem?_append_right (by omega), hl, show (j + 1) * 5 - 5 = j * 5 from by omega]; exact h0
      · rw [List.getElem?_append_right (by omega), hl, show (j + 1) * 5 + 1 - 5 = j * 5 + 1 from by omega]; exact h1
      · rw [List.getElem?_append_right (by omega), hl, show (j + 1) * 5 + 2 - 5 = j * 5 + 2 from by omega]; exact h2
      · rw [List.getElem?_append_right (by omega), hl, show (j + 1) * 5 + 3 - 5 = j * 5 + 3 from by omega]; exact h3
      · rw [List.getElem?_append_right (by omega), hl, show (j + 1) * 5 + 4 - 5 = j * 5 + 4 from by omega]; exact h4
theorem flat_one (xs : List Sm) : ∀ u ∈ flat xs, u.oneCell' = true := by
  intro u hu
  simp only [flat, List.mem_flatMap] at hu
  obtain ⟨x, _, hx⟩ := hu
  simp [Sm.cells] at hx
  rcases hx with rfl | rfl | rfl | rfl | rfl <;> rfl
/-- Which statement, and which of its cells, a place of the flat list is. -/
theorem flat_inv {xs : List Sm} {i : Nat} {u : Value} (h : (flat xs)[i]? = some u) : ∃ x, xs[i / 5]? = some x ∧ x.cells[i % 5]? = some u := by
  induction xs generalizing i with
  | nil => simp [flat] at h
  | cons y r ih =>
    have hf : flat (y :: r) = y.cells ++ flat r := by simp [flat]
    have hl : y.cells.length = 5 := rfl
    rw [hf] at h
    by_cases h5 : i < 5
    · rw [List.getElem?_append_left (by omega)] at h
      exact ⟨y, by rw [show i / 5 = 0 from by omega]; rfl, by rw [show i % 5 = i from by omega]; exact h⟩
    · rw [List.getElem?_append_right (by omega), hl] at h
      obtain ⟨x, h1, h2⟩ := ih h
      refine ⟨x, ?_, ?_⟩
      · rw [show i / 5 = (i - 5) / 5 + 1 from by omega]; simpa using h1
      · rw [show i % 5 = (i - 5) % 5 from by omega]; exact h2
/-- The cells of a thread's statements from one on, as an append reads them. -/
theorem Row.news {w : World} {B : Nat} {A : Option Addr} {xs : List Sm} (h : Row w B A xs) (t k : Nat) (ys : List Sm) (hys : ys = (xs.drop t).take k) {ao : Option Addr} (hao : 0 < ys.length → ao = A.map (·.add (t * 5))) :
    ∀ ad, ao = some ad → ∀ j u, (flat ys)[j]? = some u → w.cell? (ad.add j) = some u := by
  intro ad had j u hu
  obtain ⟨x, h1, h2⟩ := flat_inv hu
  have hpos : 0 < ys.length := by have := (List.getElem?_eq_some_iff.1 h1).1; omega
  have hxs : xs[t + j / 5]? = some x := by
    rw [hys, List.getElem?_take] at h1
    split at h1
    · rw [List.getElem?_drop] at h1; exact h1
    · cases h1
  obtain ⟨b, off, rfl, _, hx⟩ := h (by have := (List.getElem?_eq_some_iff.1 hxs).1; omega)
  have hs := hx _ _ hxs
  have e := hao hpos
  rw [had] at e
  simp only [Option.map_some, Option.some.injEq] at e
  subst e
  rw [addr_add', addr_add']
  obtain ⟨g0, g1, g2, g3, g4⟩ := hs
  have hj : j = j / 5 * 5 + j % 5 := by omega
  have hlt : j % 5 < 5 := Nat.mod_lt _ (by omega)
  generalize hq : j / 5 = q at *
  generalize hr : j % 5 = r at *
  subst hj
  have ea : off + t * 5 + (q * 5 + r) = off + (t + q) * 5 + r := by omega
  rw [ea]
  match r, hlt, h2 with
  | 0, _, h2 => simp [Sm.cells] at h2; subst h2; exact g0
  | 1, _, h2 => simp [Sm.cells] at h2; subst h2; exact g1
  | 2, _, h2 => simp [Sm.cells] at h2; subst h2; exact g2
  | 3, _, h2 => simp [Sm.cells] at h2; subst h2; exact g3
  | 4, _, h2 => simp [Sm.cells] at h2; subst h2; exact g4
/-- What is owned, as a thread of the call's own. -/
theorem own_row {w : World} {base g n cap : Nat} {zs : List Sm} (h : w.ownsRow base 107 5 (.slice (some ⟨g, 0, none⟩) n cap) n (flat zs)) (hg : base ≤ g) : OwnRow w g (g + 1) (some ⟨g, 0, none⟩) zs := fun _ => by
  rcases h.2 with ⟨h0, _⟩ | ⟨g', cap', cur, hv, _, hh, _, _, _, htake⟩
  · simp at h0
  · simp only [Value.slice.injEq, Option.some.injEq, Addr.mk.injEq, and_true, true_and] at hv
    obtain ⟨rfl, rfl⟩ := hv
    refine ⟨g, cur, rfl, Nat.le_refl _, by omega, hh, fun j x hj => ?_⟩
    have key : ∀ (i : Nat) (u : Value), (flat zs)[i]? = some u → cur[i]? = some u := by
      intro i u hi
      rw [← htake, List.getElem?_take] at hi
      split at hi
      · simpa using hi
      · cases hi
    obtain ⟨h0, h1, h2, h3, h4⟩ := flat_at hj
    exact ⟨key _ _ h0, key _ _ h1, key _ _ h2, key _ _ h3, key _ _ h4⟩

def splice (xs : List Sm) (f t : Nat) (ys : List Sm) : List Sm := xs.take f ++ (ys ++ xs.drop t)
theorem splice_length {xs ys : List Sm} {f t : Nat} (h1 : f ≤ t) (h2 : t ≤ xs.length) : (splice xs f t ys).length = xs.length - (t - f) + ys.length := by
  simp [splice]; omega

/-- 'make' of no elements, with room. -/
theorem make_room {t e : TypeId} {i : TypeInfo} {z : Value} (ht : Try.prog.underlying t = some (.slice e)) (hi : Try.prog.info? e = some i) (hz : i.zero = some z) (n : Nat) (C : Int) (hC : C = (n : Int)) (hb : i.bytes * n ≤ 281474976710656) (h63 : n ≤ 9223372036854775807) (w : World) :
    (Instr.makeSlice t (.int .i64 0) (.int .i64 C)).run Try.prog w = .ok (.slice (some ⟨w.heap.size, 0, none⟩) 0 n) (w.alloc (.cells (madeCells z.cells (n * i.size)) e)) := by
  subst hC
  have hb' : (i.bytes : Int) * (n : Int) ≤ 281474976710656 := by
    have : ((i.bytes * n : Nat) : Int) ≤ 281474976710656 := by omega
    rwa [Int.natCast_mul] at this
  have hr := run_make (P := Try.prog) w t e i z ht hi hz .i64 .i64 0 (n : Int) (by omega) (by omega) hb' (by omega)
  simpa only [Int.toNat_natCast, Int.toNat_zero] using hr

/-- What spliced comes to. -/
def Spliced (w : World) (zs : List Sm) (e : Ending) (w' : World) : Prop :=
  ∃ c, e = .returned (.slice (some ⟨w.heap.size, 0, none⟩) zs.length c) ∧ zs.length ≤ c ∧ c ≤ maxLen ∧ Below w.heap.size w w' ∧ w.heap.size < w'.heap.size ∧ OwnRow w' w.heap.size (w.heap.size + 1) (some ⟨w.heap.size, 0, none⟩) zs

end Go.Proofs.Ytaghidaamcnpkab
