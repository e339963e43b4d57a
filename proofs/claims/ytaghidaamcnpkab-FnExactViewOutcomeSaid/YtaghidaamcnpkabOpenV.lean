/-
  How lists of numbers and of truths that came in read, whatever holds them.
-/
import Derived.Test.YtaghidaamcnpkabFrame
import Derived.Test.YtaghidaamcnpkabVs
namespace Go.Proofs.Ytaghidaamcnpkab
open Go.ChangeShapes Go.WideShapes Go.ChangeAt Go.RowKit Go.Deep
set_option maxRecDepth 100000

theorem addr_add (b off n : Nat) : (⟨b, off, none⟩ : Addr).add n = ⟨b, off + n, none⟩ := by
  unfold Addr.add
  split <;> simp_all

section
variable {H : Type} {enc : TypeId × Value → H} {w : World} {base : Nat} {spare : Nat → Bool} {held : Bool}
theorem row_of {t e : TypeId} {fuel : Nat} {v : Value} {y : DataW H × List MemPlace} (ht : Try.prog.underlying t = some (.slice e)) (he : StmtType e) (h : DataW.trod enc Try.prog w base spare held fuel t [v] = some y) :
    ∃ (A : Option Addr) (xs : List Sm) (c : Nat), v = .slice A xs.length c ∧ xs.length ≤ c ∧ c ≤ maxLen ∧ (A = none → c = 0) ∧ Row w w.heap.size A xs := by
  have hC : Try.prog.cellsOf e = 5 := by obtain ⟨_, _, _, h5, _⟩ := he; exact h5
  rcases open_slice ht h with ⟨h0, _⟩ | ⟨a, len, cap, m, n, D, Pl, hcs, hb, hl, hm, hmm, _, hi⟩
  · simp at h0
    exact ⟨none, [], 0, h0, Nat.le_refl _, Nat.zero_le _, fun _ => rfl, fun hn => absurd hn (by simp)⟩
  · simp at hcs
    have hlm : len ≤ m := by rw [hmm]; split <;> omega
    have key : ∀ i, i < len → ∃ x : Sm, (w.cell? ((a.add (i * 5)).add 0) = some (.int .i64 x.k)) ∧ (w.cell? ((a.add (i * 5)).add 1) = some (.int .i64 x.a)) ∧ (w.cell? ((a.add (i * 5)).add 2) = some (.int .i64 x.b)) ∧ (w.cell? ((a.add (i * 5)).add 3) = some (.int .i64 x.c)) ∧ (w.cell? ((a.add (i * 5)).add 4) = some (.bool x.s)) := by
      intro i hlt
      obtain ⟨cs', hc, htr⟩ := hi i (by omega)
      rw [hC] at hc
      obtain ⟨_, hlen, hat⟩ := World.cells?_some hc
      obtain ⟨k, a', b', c', s', rfl, _⟩ := stmt_cells he htr
      exact ⟨⟨k, a', b', c', s'⟩, hat 0 (by omega), hat 1 (by omega), hat 2 (by omega), hat 3 (by omega), hat 4 (by omega)⟩
    obtain ⟨f, hf⟩ := choose_lt key
    refine ⟨some a, (List.range len).map f, cap, by simpa using hcs, by simpa using hl, hm, (fun e => by cases e), fun hn => ?_⟩
    have hn' : 0 < len := by simpa using hn
    have h0 := (hf 0 hn').1
    obtain ⟨b, off, spot⟩ := a
    have hspot : spot = none := by simpa [Addr.add] using World.cell?_spot h0
    subst hspot
    refine ⟨b, off, rfl, by have := World.block_lt_of_cell? w _ h0; simpa [Addr.add] using this, fun j x hj => ?_⟩
    have hjl : j < len := by
      have := (List.getElem?_eq_some_iff.1 hj).1
      simpa using this
    have hx : x = f j := by
      rw [List.getElem?_map, List.getElem?_range hjl] at hj
      simpa using hj.symm
    subst hx
    obtain ⟨g0, g1, g2, g3, g4⟩ := hf j hjl
    rw [addr_add, addr_add] at g0 g1 g2 g3 g4
    exact ⟨g0, g1, g2, g3, g4⟩

theorem rows_of {t e u : TypeId} {fuel : Nat} {v : Value} {y : DataW H × List MemPlace} (ht : Try.prog.underlying t = some (.slice e)) (hu : Try.prog.underlying e = some (.slice u)) (hC : Try.prog.cellsOf e = 1) (he : StmtType u) (h : DataW.trod enc Try.prog w base spare held fuel t [v] = some y) :
    ∃ (A : Option Addr) (L : List (List Sm)) (c : Nat), v = .slice A L.length c ∧ L.length ≤ c ∧ c ≤ maxLen ∧ Rows2 w w.heap.size A L := by
  rcases open_slice1 ht hC h with ⟨h0, _⟩ | ⟨a, len, cap, m, n, V, D, Pl, hcs, hb, hl, hm, hmm, _, hi⟩
  · simp at h0
    exact ⟨none, [], 0, h0, Nat.le_refl _, Nat.zero_le _, fun hn => absurd hn (by simp)⟩
  · simp at hcs
    have hlm : len ≤ m := by rw [hmm]; split <;> omega
    have key : ∀ i, i < len → ∃ xs : List Sm, ∃ Ai ci, w.cell? (a.add i) = some (.slice Ai xs.length ci) ∧ xs.length ≤ ci ∧ ci ≤ maxLen ∧ (Ai = none → ci = 0) ∧ Row w w.heap.size Ai xs := by
      intro i hlt
      obtain ⟨hc, htr⟩ := hi i (by omega)
      obtain ⟨Ai, xs, ci, hv, h1, h2, h20, h3⟩ := row_of hu he htr
      exact ⟨xs, Ai, ci, by rw [hc, hv], h1, h2, h20, h3⟩
    obtain ⟨f, hf⟩ := choose_lt key
    refine ⟨some a, (List.range len).map f, cap, by simpa using hcs, by simpa using hl, hm, fun hn => ?_⟩
    have hn' : 0 < len := by simpa using hn
    obtain ⟨_, _, h0, _⟩ := hf 0 hn'
    obtain ⟨b, off, spot⟩ := a
    have hspot : spot = none := by simpa [Addr.add] using World.cell?_spot h0
    subst hspot
    refine ⟨b, off, rfl, by have := World.block_lt_of_cell? w _ h0; simpa [Addr.add] using this, fun j x hj => ?_⟩
    have hjl : j < len := by
      have := (List.getElem?_eq_some_iff.1 hj).1
      simpa using this
    have hx : x = f j := by
      rw [List.getElem?_map, List.getElem?_range hjl] at hj
      simpa using hj.symm
    subst hx
    obtain ⟨Ai, ci, g0, g1, g2, g20, g3⟩ := hf j hjl
    rw [addr_add] at g0
    exact ⟨Ai, ci, g0, g1, g2, g20, g3⟩

theorem open_prog {r : Reach} {b0 : Nat} {v : Value} {d : DataW H} {p : List MemPlace} (hv : Value.okWide Try.prog w r b0 24 v) (h : DataW.Trod enc Try.prog w base spare held 24 v d p) :
    ∃ (A : Option Addr) (c : Nat) (L : List (List Sm)), v = .agg #[.slice A L.length c] ∧ L.length ≤ maxLen ∧ Rows2 w w.heap.size A L := by
  obtain ⟨cs, rfl, hsz⟩ := okWide_struct Try.underlying24 hv
  rw [show Try.prog.cellsOf 24 = 1 from by kernel_rfl] at hsz
  obtain ⟨fuel, hf⟩ := h
  obtain ⟨l⟩ := cs
  match l, hsz with
  | [c0], _ =>
    obtain ⟨xs, n, _, _, _, _, hat⟩ := DataW.trod_struct Try.underlying24 hf
    have h0 := hat 0 _ rfl
    obtain ⟨y, hy⟩ : ∃ y, xs[0]? = some y := by
      rename_i hsx
      exact ⟨_, List.getElem?_eq_getElem (by rw [hsx]; exact Nat.zero_lt_one)⟩
    rw [hy] at h0
    obtain ⟨A, L, c, hv', hl, hm, hr⟩ := rows_of Try.underlying22 Try.underlying104 (by kernel_rfl) lawsStmt (v := c0) h0
    exact ⟨A, c, L, by rw [hv'], by omega, hr⟩
end

end Go.Proofs.Ytaghidaamcnpkab
namespace Go.Proofs.Ytaghidaamcnpkab
open Go.ChangeShapes Go.WideShapes Go.ChangeAt Go.RowKit Go.Deep
set_option maxRecDepth 100000

section
variable {H : Type} {enc : TypeId × Value → H} {w : World} {base : Nat} {spare : Nat → Bool} {held : Bool}
theorem ints_of {t : TypeId} {fuel : Nat} {v : Value} {y : DataW H × List MemPlace} (ht : Try.prog.underlying t = some (.slice 3)) (h : DataW.trod enc Try.prog w base spare held fuel t [v] = some y) :
    ∃ (A : Option Addr) (xs : List Int) (c : Nat), v = .slice A xs.length c ∧ xs.length ≤ c ∧ c ≤ maxLen ∧ (A = none → c = 0) ∧ Vs w w.heap.size A (ints xs) := by
  rcases open_slice1 ht (by kernel_rfl) h with ⟨h0, _⟩ | ⟨a, len, cap, m, n, V, D, Pl, hcs, hb, hl, hm, hmm, _, hi⟩
  · simp at h0
    exact ⟨none, [], 0, h0, Nat.le_refl _, Nat.zero_le _, fun _ => rfl, Vs.nil _ _ _⟩
  · simp at hcs
    have hlm : len ≤ m := by rw [hmm]; split <;> omega
    have key : ∀ i, i < len → ∃ x : Int, w.cell? (a.add i) = some (.int .i64 x) := by
      intro i hlt
      obtain ⟨hc, htr⟩ := hi i (by omega)
      obtain ⟨k, e0, _⟩ := DataW.trod_int Try.underlying3 htr
      simp at e0
      exact ⟨k, by rw [hc, e0]⟩
    obtain ⟨f, hf⟩ := choose_lt key
    refine ⟨some a, (List.range len).map f, cap, by simpa using hcs, by simpa using hl, hm, (fun e => by cases e), fun hn => ?_⟩
    have hn' : 0 < len := by simpa using hn
    have h0 := hf 0 hn'
    obtain ⟨b, off, spot⟩ := a
    have hspot : spot = none := by simpa [Addr.add] using World.cell?_spot h0
    subst hspot
    refine ⟨b, off, rfl, by have := World.block_lt_of_cell? w _ h0; simpa [Addr.add] using this, fun j v hj => ?_⟩
    have hjl : j < len := by
      have := (List.getElem?_eq_some_iff.1 hj).1
      simpa using this
    have hx : v = .int .i64 (f j) := by
      simp only [ints, List.getElem?_map, List.getElem?_range hjl] at hj
      simpa using hj.symm
    subst hx
    have := hf j hjl
    rw [addr_add] at this
    exact this
theorem bools_of {t : TypeId} {fuel : Nat} {v : Value} {y : DataW H × List MemPlace} (ht : Try.prog.underlying t = some (.slice 4)) (h : DataW.trod enc Try.prog w base spare held fuel t [v] = some y) :
    ∃ (A : Option Addr) (xs : List Bool) (c : Nat), v = .slice A xs.length c ∧ xs.length ≤ c ∧ c ≤ maxLen ∧ (A = none → c = 0) ∧ Vs w w.heap.size A (bools xs) := by
  rcases open_slice1 ht (by kernel_rfl) h with ⟨h0, _⟩ | ⟨a, len, cap, m, n, V, D, Pl, hcs, hb, hl, hm, hmm, _, hi⟩
  · simp at h0
    exact ⟨none, [], 0, h0, Nat.le_refl _, Nat.zero_le _, fun _ => rfl, Vs.nil _ _ _⟩
  · simp at hcs
    have hlm : len ≤ m := by rw [hmm]; split <;> omega
    have key : ∀ i, i < len → ∃ x : Bool, w.cell? (a.add i) = some (.bool x) := by
      intro i hlt
      obtain ⟨hc, htr⟩ := hi i (by omega)
      obtain ⟨k, e0, _⟩ := DataW.trod_bool Try.underlying4 htr
      simp at e0
      exact ⟨k, by rw [hc, e0]⟩
    obtain ⟨f, hf⟩ := choose_lt key
    refine ⟨some a, (List.range len).map f, cap, by simpa using hcs, by simpa using hl, hm, (fun e => by cases e), fun hn => ?_⟩
    have hn' : 0 < len := by simpa using hn
    have h0 := hf 0 hn'
    obtain ⟨b, off, spot⟩ := a
    have hspot : spot = none := by simpa [Addr.add] using World.cell?_spot h0
    subst hspot
    refine ⟨b, off, rfl, by have := World.block_lt_of_cell? w _ h0; simpa [Addr.add] using this, fun j v hj => ?_⟩
    have hjl : j < len := by
      have := (List.getElem?_eq_some_iff.1 hj).1
      simpa using this
    have hx : v = .bool (f j) := by
      simp only [bools, List.getElem?_map, List.getElem?_range hjl] at hj
      simpa using hj.symm
    subst hx
    have := hf j hjl
    rw [addr_add] at this
    exact this
end
end Go.Proofs.Ytaghidaamcnpkab
