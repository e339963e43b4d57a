/-
  How a state on a machine with views that came in reads, whatever holds it.
-/
import Derived.Test.YtaghidaamcnpkabSt
import Derived.Test.YtaghidaamcnpkabOpenV
import Derived.Test.YtaghidaamcnpkabVwd
namespace Go.Proofs.Ytaghidaamcnpkab
open Go.ChangeShapes Go.WideShapes Go.ChangeAt Go.RowKit Go.Deep
set_option maxRecDepth 100000

section
variable {H : Type} {enc : TypeId × Value → H} {w : World} {base : Nat} {spare : Nat → Bool} {held : Bool}
theorem cells_Sta {fuel : Nat} {l : List Value} {y : DataW H × List MemPlace} (hl : l.length = 5) (hf : DataW.trod enc Try.prog w base spare held fuel 43 l = some y) :
    ∃ (h : StaH) (o : Sta), l = (StaV h o).cells.toList ∧ StaL o maxLen ∧ StaR w w.heap.size h o := by
  match l, hl with
  | [x0, x1, x2, x3, x4], _ =>
    obtain ⟨xs, n, _, _, _, hsx, hat⟩ := DataW.trod_struct Try.underlying43 hf
    have hsx' : xs.length = 5 := hsx
    have g : ∀ i, i < 5 → ∃ y, xs[i]? = some y := fun i hi => ⟨_, List.getElem?_eq_getElem (by omega)⟩
    obtain ⟨y0, hy0⟩ := g 0 (by omega)
    have t0 := hat 0 _ rfl
    rw [hy0] at t0
    obtain ⟨A0, v0, c0, e0, p0, q0, _, s0⟩ := ints_of (v := x0) Try.underlying25 t0
    obtain ⟨y1, hy1⟩ := g 1 (by omega)
    have t1 := hat 1 _ rfl
    rw [hy1] at t1
    obtain ⟨A1, v1, c1, e1, p1, q1, _, s1⟩ := ints_of (v := x1) Try.underlying25 t1
    obtain ⟨y2, hy2⟩ := g 2 (by omega)
    have t2 := hat 2 _ rfl
    rw [hy2] at t2
    obtain ⟨A2, v2, c2, e2, p2, q2, _, s2⟩ := ints_of (v := x2) Try.underlying25 t2
    obtain ⟨y3, hy3⟩ := g 3 (by omega)
    have t3 := hat 3 _ rfl
    rw [hy3] at t3
    obtain ⟨A3, v3, c3, e3, p3, q3, _, s3⟩ := ints_of (v := x3) Try.underlying25 t3
    obtain ⟨y4, hy4⟩ := g 4 (by omega)
    have t4 := hat 4 _ rfl
    rw [hy4] at t4
    obtain ⟨A4, v4, c4, e4, p4, q4, _, s4⟩ := ints_of (v := x4) Try.underlying25 t4
    exact ⟨⟨A0, A1, A2, A3, A4, c0, c1, c2, c3, c4⟩, ⟨v0, v1, v2, v3, v4⟩, by rw [e0, e1, e2, e3, e4]; rfl, ⟨Nat.le_trans p0 q0, Nat.le_trans p1 q1, Nat.le_trans p2 q2, Nat.le_trans p3 q3, Nat.le_trans p4 q4⟩, ⟨s0, s1, s2, s3, s4⟩⟩
theorem open_Sta {r : Reach} {b0 : Nat} {v : Value} {d : DataW H} {p : List MemPlace} (hv : Value.okWide Try.prog w r b0 43 v) (h : DataW.Trod enc Try.prog w base spare held 43 v d p) :
    ∃ (h : StaH) (o : Sta), v = StaV h o ∧ StaL o maxLen ∧ StaR w w.heap.size h o := by
  obtain ⟨cs, rfl, hsz⟩ := okWide_struct Try.underlying43 hv
  rw [show Try.prog.cellsOf 43 = 5 from by kernel_rfl] at hsz
  obtain ⟨fuel, hf⟩ := h
  obtain ⟨h, o, e, l, r⟩ := cells_Sta (show cs.toList.length = _ from by simpa using hsz) hf
  refine ⟨h, o, ?_, l, r⟩
  simp only [Value.cells] at e
  rw [show cs = _ from Array.ext' e]
end
end Go.Proofs.Ytaghidaamcnpkab
namespace Go.Proofs.Ytaghidaamcnpkab
open Go.ChangeShapes Go.WideShapes Go.ChangeAt Go.RowKit Go.Deep
set_option maxRecDepth 100000

section
variable {H : Type} {enc : TypeId × Value → H} {w : World} {base : Nat} {spare : Nat → Bool} {held : Bool}
theorem cells_Nt {fuel : Nat} {l : List Value} {y : DataW H × List MemPlace} (hl : l.length = 3) (hf : DataW.trod enc Try.prog w base spare held fuel 160 l = some y) :
    ∃ (h : NtH) (x : Nt), l = [.int .i64 x.v, .slice h.A x.w.length h.c, .bool x.g] ∧ x.w.length ≤ maxLen ∧ Vs w w.heap.size h.A (ints x.w) := by
  match l, hl with
  | [x0, x1, x2], _ =>
    obtain ⟨xs, n, _, _, _, hsx, hat⟩ := DataW.trod_struct Try.underlying160 hf
    have hsx' : xs.length = 3 := hsx
    have g : ∀ i, i < 3 → ∃ y, xs[i]? = some y := fun i hi => ⟨_, List.getElem?_eq_getElem (by omega)⟩
    obtain ⟨y0, hy0⟩ := g 0 (by omega)
    have t0 := hat 0 _ rfl
    rw [hy0] at t0
    obtain ⟨v, e0, _⟩ := DataW.trod_int Try.underlying3 (show DataW.trod enc Try.prog w base spare held _ 3 [x0] = some y0 from t0)
    obtain ⟨y1, hy1⟩ := g 1 (by omega)
    have t1 := hat 1 _ rfl
    rw [hy1] at t1
    obtain ⟨A1, v1, c1, e1, p1, q1, _, s1⟩ := ints_of (v := x1) Try.underlying25 t1
    obtain ⟨y2, hy2⟩ := g 2 (by omega)
    have t2 := hat 2 _ rfl
    rw [hy2] at t2
    obtain ⟨b, e2, _⟩ := DataW.trod_bool Try.underlying4 (show DataW.trod enc Try.prog w base spare held _ 4 [x2] = some y2 from t2)
    have f0 : x0 = .int .i64 v := by simpa using e0
    have f2 : x2 = .bool b := by simpa using e2
    exact ⟨⟨A1, c1⟩, ⟨v, v1, b⟩, by rw [f0, e1, f2], Nat.le_trans p1 q1, s1⟩
theorem nts_of {fuel : Nat} {v : Value} {y : DataW H × List MemPlace} (h : DataW.trod enc Try.prog w base spare held fuel 122 [v] = some y) :
    ∃ (h : NtsH) (o : Nts), v = NtsV h o ∧ NtsL o maxLen ∧ NtsR w w.heap.size h o := by
  have hC : Try.prog.cellsOf 160 = 3 := by kernel_rfl
  rcases open_slice Try.underlying122 h with ⟨h0, _⟩ | ⟨a, len, cap, m, n, D, Pl, hcs, hb, hl, hm, hmm, _, hi⟩
  · simp at h0
    exact ⟨⟨none, 0⟩, [], h0, ⟨Nat.zero_le _, fun x hx => absurd hx (by simp)⟩, ⟨fun hn => absurd hn (by simp)⟩⟩
  · simp at hcs
    have hlm : len ≤ m := by rw [hmm]; split <;> omega
    have key : ∀ i, i < len → ∃ p : NtH × Nt, w.cell? ((a.add (i * 3)).add 0) = some (.int .i64 p.2.v) ∧ w.cell? ((a.add (i * 3)).add 1) = some (.slice p.1.A p.2.w.length p.1.c) ∧ w.cell? ((a.add (i * 3)).add 2) = some (.bool p.2.g) ∧ p.2.w.length ≤ maxLen ∧ Vs w w.heap.size p.1.A (ints p.2.w) := by
      intro i hlt
      obtain ⟨cs', hc, htr⟩ := hi i (by omega)
      rw [hC] at hc
      obtain ⟨_, hlen, hat⟩ := World.cells?_some hc
      obtain ⟨k, x, e, l, r⟩ := cells_Nt hlen htr
      subst e
      exact ⟨⟨k, x⟩, hat 0 (by omega), hat 1 (by omega), hat 2 (by omega), l, r⟩
    obtain ⟨f, hf⟩ := choose_lt key
    refine ⟨⟨some a, cap⟩, (List.range len).map fun i => (f i).2, by rw [hcs, NtsV, List.length_map, List.length_range], ⟨by simp; omega, fun x hx => ?_⟩, ⟨fun hn => ?_⟩⟩
    · simp only [List.mem_map, List.mem_range] at hx
      obtain ⟨i, hi', rfl⟩ := hx
      exact (hf i hi').2.2.2.1
    have hn' : 0 < len := by simpa using hn
    have h0 := (hf 0 hn').1
    obtain ⟨b, off, spot⟩ := a
    have hspot : spot = none := by simpa [Addr.add] using World.cell?_spot h0
    subst hspot
    refine ⟨b, off, rfl, by have := World.block_lt_of_cell? w _ h0; simpa [Addr.add] using this, fun j x hj => ?_⟩
    have hjl : j < len := by
      have := (List.getElem?_eq_some_iff.1 hj).1
      simpa using this
    have hx : x = (f j).2 := by
      rw [List.getElem?_map, List.getElem?_range hjl] at hj
      simpa using hj.symm
    subst hx
    obtain ⟨g0, g1, g2, _, g4⟩ := hf j hjl
    rw [addr_add, addr_add] at g0 g1 g2
    exact ⟨(f j).1, ⟨g0, g1, g2⟩, g4⟩
theorem nss_of {fuel : Nat} {v : Value} {y : DataW H × List MemPlace} (h : DataW.trod enc Try.prog w base spare held fuel 44 [v] = some y) :
    ∃ (h : NssH) (o : Nss), v = NssV h o ∧ NssL o maxLen ∧ NssR w w.heap.size h o := by
  rcases open_slice1 Try.underlying44 (by kernel_rfl) h with ⟨h0, _⟩ | ⟨a, len, cap, m, n, V, D, Pl, hcs, hb, hl, hm, hmm, _, hi⟩
  · simp at h0
    exact ⟨⟨none, 0⟩, [], h0, ⟨Nat.zero_le _, fun x hx => by simp at hx⟩, ⟨fun hn => absurd hn (by simp)⟩⟩
  · simp at hcs
    have hlm : len ≤ m := by rw [hmm]; split <;> omega
    have key : ∀ i, i < len → ∃ p : NtsH × Nts, w.cell? (a.add i) = some (NtsV p.1 p.2) ∧ NtsL p.2 maxLen ∧ NtsR w w.heap.size p.1 p.2 := by
      intro i hlt
      obtain ⟨hc, htr⟩ := hi i (by omega)
      obtain ⟨k, o, hv, h1, h2⟩ := nts_of htr
      exact ⟨⟨k, o⟩, by rw [hc, hv], h1, h2⟩
    obtain ⟨f, hf⟩ := choose_lt key
    refine ⟨⟨some a, cap⟩, (List.range len).map fun i => (f i).2, by rw [hcs]; simp, ⟨by simp; omega, ?_⟩, ⟨fun hn => ?_⟩⟩
    · intro xs hx
      obtain ⟨i, hi', rfl⟩ := List.mem_map.1 hx
      exact (hf i (List.mem_range.1 hi')).2.1
    have hn' : 0 < len := by simpa using hn
    obtain ⟨h0, _⟩ := hf 0 hn'
    obtain ⟨b, off, spot⟩ := a
    have hspot : spot = none := by simpa [Addr.add] using World.cell?_spot h0
    subst hspot
    refine ⟨b, off, rfl, by have := World.block_lt_of_cell? w _ h0; simpa [Addr.add] using this, fun j x hj => ?_⟩
    have hjl : j < len := by
      have := (List.getElem?_eq_some_iff.1 hj).1
      simpa using this
    have hx : x = (f j).2 := by
      rw [List.getElem?_map, List.getElem?_range hjl] at hj
      simpa using hj.symm
    subst hx
    obtain ⟨g0, g1, g2⟩ := hf j hjl
    rw [addr_add] at g0
    exact ⟨(f j).1, g0, g2⟩
theorem open_Vwd {r : Reach} {b0 : Nat} {v : Value} {d : DataW H} {p : List MemPlace} (hv : Value.okWide Try.prog w r b0 47 v) (h : DataW.Trod enc Try.prog w base spare held 47 v d p) :
    ∃ (h : VwdH) (o : Vwd), v = VwdV h o ∧ VwdL o maxLen ∧ VwdR w w.heap.size h o := by
  obtain ⟨cs, rfl, hsz⟩ := okWide_struct Try.underlying47 hv
  rw [show Try.prog.cellsOf 47 = 10 from by kernel_rfl] at hsz
  obtain ⟨fuel, hf⟩ := h
  obtain ⟨l⟩ := cs
  match l, hsz with
  | [x0, x1, x2, x3, x4, x5, x6, x7, x8, x9], _ =>
    obtain ⟨xs, n, _, _, _, hsx, hat⟩ := DataW.trod_struct Try.underlying47 hf
    have hsx' : xs.length = 6 := hsx
    have g : ∀ i, i < 6 → ∃ y, xs[i]? = some y := fun i hi => ⟨_, List.getElem?_eq_getElem (by omega)⟩
    obtain ⟨y0, hy0⟩ := g 0 (by omega)
    have t0 := hat 0 _ rfl
    rw [hy0] at t0
    obtain ⟨h0, o0, e0, l0, r0⟩ := cells_Sta (l := [x0, x1, x2, x3, x4]) rfl t0
    obtain ⟨y1, hy1⟩ := g 1 (by omega)
    have t1 := hat 1 _ rfl
    rw [hy1] at t1
    obtain ⟨k1, L1, e1, l1, r1⟩ := nss_of (v := x5) t1
    obtain ⟨y2, hy2⟩ := g 2 (by omega)
    have t2 := hat 2 _ rfl
    rw [hy2] at t2
    obtain ⟨k2, L2, e2, l2, r2⟩ := iss_of (v := x6) t2
    obtain ⟨y3, hy3⟩ := g 3 (by omega)
    have t3 := hat 3 _ rfl
    rw [hy3] at t3
    obtain ⟨k3, L3, e3, l3, r3⟩ := iss_of (v := x7) t3
    obtain ⟨y4, hy4⟩ := g 4 (by omega)
    have t4 := hat 4 _ rfl
    rw [hy4] at t4
    obtain ⟨k4, L4, e4, l4, r4⟩ := iss_of (v := x8) t4
    obtain ⟨y5, hy5⟩ := g 5 (by omega)
    have t5 := hat 5 _ rfl
    rw [hy5] at t5
    obtain ⟨A5, L5, c5, e5, p5, q5, _, r5⟩ := ints_of (v := x9) Try.underlying25 t5
    refine ⟨⟨h0, k1, k2, k3, k4, ⟨A5, c5⟩⟩, ⟨o0, L1, L2, L3, L4, L5⟩, ?_, ⟨l0, l1, l2, l3, l4, Nat.le_trans p5 q5⟩, ⟨r0, r1, r2, r3, r4, r5⟩⟩
    simp only [Value.cells, List.cons.injEq, and_true] at e0
    obtain ⟨a0, a1, a2, a3, a4⟩ := e0
    rw [a0, a1, a2, a3, a4, e1, e2, e3, e4, e5]
end
end Go.Proofs.Ytaghidaamcnpkab
