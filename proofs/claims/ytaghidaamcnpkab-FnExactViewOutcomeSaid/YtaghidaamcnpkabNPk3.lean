/-
  A state on a machine with views packed: what the program's packedViewed comes to.
-/
import Derived.Test.YtaghidaamcnpkabNBeg
import Derived.Test.YtaghidaamcnpkabPack
import Derived.Test.YtaghidaamcnpkabQTail
namespace Go.Proofs
theorem Ytaghidaamcnpkab.u64_info : (Try.prog.info? 88).map (fun i => (i.zero, i.size, i.bytes)) = some (some (.int .u64 0), 1, 8) := by kernel_rfl
end Go.Proofs
namespace Go.Proofs.Ytaghidaamcnpkab
open Go.RowKit Pl Go.BigFrame
set_option maxHeartbeats 8000000
set_option maxRecDepth 100000
set_option linter.unusedVariables false

/-- The numbers of a note's word. -/
def ntF (x : Nt) : Nat → Nat := swF (vwF x.w) x.v.toNat x.g
abbrev ntZ (x : Nt) : Value := .int .u64 (enc WV (ntF x) : Nat)
abbrev TU : TypeId := 88
/-- A row's words, the first j of them, in a block of their own. -/
def RowP (wr : World) (d : Nat) (r : Nts) (j : Nat) : Prop := ∃ cs, Bk wr d TU cs ∧ cs.size = r.length ∧ ∀ (i : Nat) (x : Nt), i < j → r[i]? = some x → cs[i]? = some (ntZ x)
def pkF9 (D : Nat → Nat) (N : Nss) (k p : Nat) : Value := if p < k then .slice (some ⟨D p, 0, none⟩) (N.getD p []).length (N.getD p []).length else .slice none 0 0
theorem bgC_put (E : Nat) (D : Nat → Nat) (N : Nss) (d : Nat) {k : Nat} (h : k < 3) : (bgC E (pkF9 D N k)).setIfInBounds (1 + k) (.slice (some ⟨d, 0, none⟩) (N.getD k []).length (N.getD k []).length) = bgC E (pkF9 (fun p => if p = k then d else D p) N (k + 1)) := by
  rcases (show k = 0 ∨ k = 1 ∨ k = 2 by omega) with rfl | rfl | rfl <;> rfl
def mJ (N : Nss) (p j : Nat) : Nat → Nat := fun q => if q = p then j else (N.getD q []).length
structure PkG (w wr : World) (g E k : Nat) (m : Nat → Nat) (N : Nss) (D : Nat → Nat) : Prop where
  lo : w.heap.size ≤ g
  bel : Below w.heap.size w wr
  box : Bk wr g TG (bgC E (pkF9 D N k))
  row : ∀ p, p < k → g < D p ∧ D p < wr.heap.size ∧ RowP wr (D p) (N.getD p []) (m p)
  inc : ∀ p q, p < q → q < k → D p < D q
theorem RowP.below {wr w' : World} {d j B : Nat} {r : Nts} (h : RowP wr d r j) (hb : Below B wr w') (hd : d < B) : RowP w' d r j := by
  obtain ⟨cs, h1, h2, h3⟩ := h
  exact ⟨cs, h1.below hb hd, h2, h3⟩
theorem PkG.grow {w wr w' : World} {g E k : Nat} {m : Nat → Nat} {N : Nss} {D : Nat → Nat} (h : PkG w wr g E k m N D) (hb : Below wr.heap.size wr w') : PkG w w' g E k m N D :=
  ⟨h.lo, h.bel.trans (hb.mono h.bel.size), h.box.below hb h.box.lt, fun p hp => by
    obtain ⟨a, b, c⟩ := h.row p hp
    exact ⟨a, Nat.lt_of_lt_of_le b hb.size, c.below hb b⟩, h.inc⟩
theorem PkG.rows {w wr : World} {g E k : Nat} {m m' : Nat → Nat} {N : Nss} {D : Nat → Nat} (h : PkG w wr g E k m N D) (hm : ∀ p, p < k → m' p ≤ m p) : PkG w wr g E k m' N D :=
  ⟨h.lo, h.bel, h.box, fun p hp => by
    obtain ⟨a, b, cs, c1, c2, c3⟩ := h.row p hp
    exact ⟨a, b, cs, c1, c2, fun i x hi hx => c3 i x (Nat.lt_of_lt_of_le hi (hm p hp)) hx⟩, h.inc⟩
/-- A row begun: its block is made, and the box leads there. -/
theorem PkG.next {w wr : World} {g E k : Nat} {m : Nat → Nat} {N : Nss} {D : Nat → Nat} (h : PkG w wr g E k m N D) (hk : k < 3) (cs : Array Value) (hcs : cs.size = (N.getD k []).length) (m' : Nat → Nat) (hm : ∀ p, p < k → m' p = m p) (hm0 : m' k = 0) :
    PkG w ((wr.setCell ⟨g, 1 + k, none⟩ (.slice (some ⟨wr.heap.size, 0, none⟩) (N.getD k []).length (N.getD k []).length)).alloc (.cells cs TU)) g E (k + 1) m' N (fun p => if p = k then wr.heap.size else D p) := by
  have hl := h.box.lt
  have hlo := h.lo
  have bel1 : Below w.heap.size w (wr.setCell ⟨g, 1 + k, none⟩ (.slice (some ⟨wr.heap.size, 0, none⟩) (N.getD k []).length (N.getD k []).length)) := h.bel.setCell (p := ⟨g, 1 + k, none⟩) hlo _
  have hz := h.bel.size
  refine ⟨hlo, bel1.alloc (by rw [World.size_setCell]; omega) _, ?_, fun p hp => ?_, fun p q hpq hq => ?_⟩
  · have := (h.box.set (1 + k) (.slice (some ⟨wr.heap.size, 0, none⟩) (N.getD k []).length (N.getD k []).length)).alloc (.cells cs TU)
    rw [bgC_put E D N _ hk] at this
    exact this
  · by_cases e : p = k
    · subst e
      simp only [if_true]
      refine ⟨hl, by simp, cs, ?_, hcs, fun i x hi => ?_⟩
      · have := Bk.new (wr.setCell ⟨g, 1 + p, none⟩ (.slice (some ⟨wr.heap.size, 0, none⟩) (N.getD p []).length (N.getD p []).length)) cs TU
        rw [World.size_setCell] at this
        exact this
      · rw [hm0] at hi; omega
    · simp only [if_neg e]
      obtain ⟨a, b, cs', c1, c2, c3⟩ := h.row p (by omega)
      refine ⟨a, by simp; omega, cs', ?_, c2, by rw [hm p (by omega)]; exact c3⟩
      exact (c1.far (p := ⟨g, 1 + k, none⟩) (by show D p ≠ g; omega) _).alloc _
  · show (if p = k then wr.heap.size else D p) < (if q = k then wr.heap.size else D q)
    rw [if_neg (by omega)]
    by_cases e : q = k
    · rw [if_pos e]; exact (h.row p (by omega)).2.1
    · rw [if_neg e]; exact h.inc p q hpq (by omega)
/-- One word more of the last row. -/
theorem PkG.put {w wr : World} {g E k j : Nat} {m m' : Nat → Nat} {N : Nss} {D : Nat → Nat} {x : Nt} (h : PkG w wr g E (k + 1) m N D) (hx : (N.getD k [])[j]? = some x) (hj : m k = j) (hm : ∀ p, p < k → m' p = m p) (hm1 : m' k = j + 1) :
    PkG w (wr.setCell ⟨D k, j, none⟩ (ntZ x)) g E (k + 1) m' N D := by
  have hlo := h.lo
  obtain ⟨a0, b0, cs, c1, c2, c3⟩ := h.row k (by omega)
  have hjl := (List.getElem?_eq_some_iff.1 hx).1
  refine ⟨hlo, h.bel.setCell (p := ⟨D k, j, none⟩) (by show w.heap.size ≤ D k; omega) _, h.box.far (p := ⟨D k, j, none⟩) (by show g ≠ D k; omega) _, fun p hp => ?_, h.inc⟩
  by_cases e : p = k
  · subst e
    refine ⟨a0, by rw [World.size_setCell]; exact b0, _, c1.set j (ntZ x), by simpa using c2, fun i y hi hy => ?_⟩
    rw [hm1] at hi
    by_cases e2 : i = j
    · subst e2
      rw [hx] at hy
      injection hy with hy
      subst hy
      rw [Array.getElem?_setIfInBounds_self_of_lt (by omega)]
    · rw [Array.getElem?_setIfInBounds_ne (by omega)]
      exact c3 i y (by omega) hy
  · obtain ⟨a, b, cs', d1, d2, d3⟩ := h.row p hp
    have hlt := h.inc p k (by omega) (by omega)
    refine ⟨a, by rw [World.size_setCell]; exact b, cs', d1.far (p := ⟨D k, j, none⟩) (by show D p ≠ D k; omega) _, d2, by rw [hm p (by omega)]; exact d3⟩
theorem bgC_at (E : Nat) (F : Nat → Value) {p : Nat} (h : p < 3) : (bgC E F)[1 + p]? = some (F p) := by
  rcases (show p = 0 ∨ p = 1 ∨ p = 2 by omega) with rfl | rfl | rfl <;> rfl
theorem bgC_pk {E : Nat} {f : Nat → Nat} (D : Nat → Nat) (N : Nss) (hE : enc WS f = E) : bgC E (pkF9 D N 3) = mkG ⟨fun p => some ⟨D p, 0, none⟩, fun p => (N.getD p []).length⟩ ⟨f, fun p => (N.getD p []).map ntF, fun _ _ => 0⟩ := by
  unfold mkG bgC pkF9
  simp only [List.length_map, hE, encV_zero]
  rfl
theorem pk_rd {wr : World} {D : Nat → Nat} {N : Nss} {f : Nat → Nat} {V : Nat → Nat → Nat} {c : Nat → Nat} (h : ∀ p, p < 3 → D p < wr.heap.size ∧ RowP wr (D p) (N.getD p []) (N.getD p []).length) : SgR wr wr.heap.size ⟨fun p => some ⟨D p, 0, none⟩, c⟩ ⟨f, fun p => (N.getD p []).map ntF, V⟩ := by
  intro p hp
  obtain ⟨b, cs, c1, c2, c3⟩ := h p hp
  intro _
  refine ⟨D p, 0, rfl, b, fun j v hj => ?_⟩
  have hj' : ((N.getD p []).map ntF).map (fun g => Value.int .u64 (enc WV g : Nat)) = (N.getD p []).map ntZ := by rw [List.map_map]; rfl
  have hj2 : ((N.getD p []).map ntZ)[j]? = some v := by rw [← hj']; exact hj
  rw [List.getElem?_map] at hj2
  cases hx : (N.getD p [])[j]? with
  | none => rw [hx] at hj2; cases hj2
  | some x =>
    rw [hx] at hj2
    injection hj2 with hj2
    subst hj2
    rw [Nat.zero_add, c1.cell j]
    exact c3 j x (List.getElem?_eq_some_iff.1 hx).1 hx
/-- What packs holds of notes and views: their numbers are small. -/
structure NP (o : Vwd) : Prop where
  n3 : o.n.length = 3
  l : ∀ r ∈ o.n, 1 ≤ r.length ∧ r.length ≤ 16
  e : ∀ r ∈ o.n, ∀ x ∈ r, 0 ≤ x.v ∧ x.v ≤ 3 ∧ x.w.length ≤ 3 ∧ ∀ i ∈ x.w, 0 ≤ i ∧ i ≤ 15
  v : o.v.length ≤ 3 ∧ ∀ xs ∈ o.v, xs.length ≤ 3 ∧ ∀ x ∈ xs, 0 ≤ x ∧ x ≤ 15
  k : o.l.length ≤ 2 ∧ ∀ xs ∈ o.l, xs.length ≤ 3 ∧ ∀ x ∈ xs, 0 ≤ x ∧ x ≤ 15
  c : o.k.length ≤ 2 ∧ ∀ xs ∈ o.k, xs.length ≤ 3 ∧ ∀ x ∈ xs, 0 ≤ x ∧ x ≤ 15
  f : o.f.length ≤ 3 ∧ ∀ x ∈ o.f, 0 ≤ x ∧ x ≤ 15
def sg0 (L : Pg) (o : Vwd) : Sg := ⟨wdF L o.st, fun p => (o.n.getD p []).map ntF, fun _ _ => 0⟩
/-- A state's words. -/
def sgF (L : Pg) (o : Vwd) : Sg := wvS (wvS (wvS (wvS (sg0 L o) 0 o.v) 3 o.l) 5 o.k) 7 [o.f]
/-- What stands while the words of views are put in. -/
structure St9 (w cur : World) (B g : Nat) (Z VA : Array Value) (D : Nat → Nat) (k : VwdH) (o : Vwd) (q : Array Value) : Prop where
  bel : Below w.heap.size w cur
  g0 : w.heap.size + 1 + 1 < g
  B0 : B ≤ w.heap.size
  box : Bk cur g TG q
  vw : Bk cur (w.heap.size + 1) 53 VA
  res : Bk cur (w.heap.size + 1 + 1) TG Z
  rd : VwdR cur B k o
  row : ∀ p, p < 3 → g < D p ∧ D p < cur.heap.size ∧ RowP cur (D p) (o.n.getD p []) (o.n.getD p []).length
theorem RowP.stored {w w' : World} {g d j : Nat} {t : TypeId} {q : Array Value} {r : Nts} (h : RowP w d r j) (s : Stored w w' g t q) (hn : d ≠ g) : RowP w' d r j := by
  obtain ⟨cs, h1, h2, h3⟩ := h
  exact ⟨cs, s.other h1 hn, h2, h3⟩
theorem St9.below {w cur c2 : World} {B g : Nat} {Z VA q : Array Value} {D : Nat → Nat} {k : VwdH} {o : Vwd} (h : St9 w cur B g Z VA D k o q) (hb : Below cur.heap.size cur c2) : St9 w c2 B g Z VA D k o q := by
  have hz := h.bel.size
  have hB := h.B0
  refine ⟨h.bel.trans (hb.mono hz), h.g0, hB, h.box.below hb h.box.lt, h.vw.below hb h.vw.lt, h.res.below hb h.res.lt, h.rd.below hb (by omega), fun p hp => ?_⟩
  obtain ⟨a, b, c⟩ := h.row p hp
  exact ⟨a, Nat.lt_of_lt_of_le b hb.size, c.below hb b⟩
theorem St9.put {w cur c2 : World} {B g : Nat} {Z VA q q2 : Array Value} {D : Nat → Nat} {k : VwdH} {o : Vwd} (h : St9 w cur B g Z VA D k o q) (s : Stored cur c2 g TG q2) : St9 w c2 B g Z VA D k o q2 := by
  have hg := h.g0
  have hB := h.B0
  have hz := s.size
  refine ⟨h.bel.trans (s.bel _ (by omega)), hg, hB, s.bk, s.other h.vw (by omega), s.other h.res (by omega), h.rd.below (s.bel B (by omega)) (Nat.le_refl _), fun p hp => ?_⟩
  obtain ⟨a, b, c⟩ := h.row p hp
  exact ⟨a, by omega, c.stored s (by omega)⟩
theorem packv_any (h : PgH) (L : Pg) (k : VwdH) (o : Vwd) (w : World) (B : Nat) (hP : PgR w B h L) (hR : VwdR w B k o) (hB : B ≤ w.heap.size) (P : StP L o.st) (N : NP o) :
    Calls Try.prog 54 #[PgV h L, VwdV k o] w (AnsG w (sgF L o)) := by
  obtain ⟨i0, hi, hz0, hz1, hz2⟩ := info_parts u64_info
  obtain ⟨Z, hZ⟩ : ∃ Z : Array Value, Z = #[.int .u64 0, .slice none 0 0, .slice none 0 0, .slice none 0 0, .int .u64 0, .int .u64 0, .int .u64 0, .int .u64 0, .int .u64 0, .int .u64 0, .int .u64 0, .int .u64 0] := ⟨_, rfl⟩
  obtain ⟨W, hW⟩ : ∃ W, W = ((w.alloc (.cells #[.slice h.A L.length h.c] 32)).alloc (.cells #[.slice k.h.A0 o.st.f0.length k.h.c0, .slice k.h.A1 o.st.f1.length k.h.c1, .slice k.h.A2 o.st.f2.length k.h.c2, .slice k.h.A3 o.st.f3.length k.h.c3, .slice k.h.A4 o.st.f4.length k.h.c4, .slice k.n.A o.n.length k.n.c, .slice k.v.A o.v.length k.v.c, .slice k.l.A o.l.length k.l.c, .slice k.k.A o.k.length k.k.c, .slice k.f.A o.f.length k.f.c] 53)).alloc (.cells #[.int .u64 0, .slice none 0 0, .slice none 0 0, .slice none 0 0, .int .u64 0, .int .u64 0, .int .u64 0, .int .u64 0, .int .u64 0, .int .u64 0, .int .u64 0, .int .u64 0] TG) := ⟨_, rfl⟩
  have bW : Below w.heap.size w W := by rw [hW]; go_grown
  have sW : W.heap.size = w.heap.size + 1 + 1 + 1 := by rw [hW]; simp
  have k0 : Bk W w.heap.size 32 #[.slice h.A L.length h.c] := by rw [hW]; exact ((Bk.new w _ _).alloc _).alloc _
  have k1 : Bk W (w.heap.size + 1) 53 #[.slice k.h.A0 o.st.f0.length k.h.c0, .slice k.h.A1 o.st.f1.length k.h.c1, .slice k.h.A2 o.st.f2.length k.h.c2, .slice k.h.A3 o.st.f3.length k.h.c3, .slice k.h.A4 o.st.f4.length k.h.c4, .slice k.n.A o.n.length k.n.c, .slice k.v.A o.v.length k.v.c, .slice k.l.A o.l.length k.l.c, .slice k.k.A o.k.length k.k.c, .slice k.f.A o.f.length k.f.c] := by
    rw [hW]
    have := (Bk.new (w.alloc (.cells #[.slice h.A L.length h.c] 32)) #[.slice k.h.A0 o.st.f0.length k.h.c0, .slice k.h.A1 o.st.f1.length k.h.c1, .slice k.h.A2 o.st.f2.length k.h.c2, .slice k.h.A3 o.st.f3.length k.h.c3, .slice k.h.A4 o.st.f4.length k.h.c4, .slice k.n.A o.n.length k.n.c, .slice k.v.A o.v.length k.v.c, .slice k.l.A o.l.length k.l.c, .slice k.k.A o.k.length k.k.c, .slice k.f.A o.f.length k.f.c] 53).alloc (.cells #[.int .u64 0, .slice none 0 0, .slice none 0 0, .slice none 0 0, .int .u64 0, .int .u64 0, .int .u64 0, .int .u64 0, .int .u64 0, .int .u64 0, .int .u64 0, .int .u64 0] TG)
    rwa [World.size_alloc] at this
  have k2 : Bk W (w.heap.size + 1 + 1) TG Z := by
    rw [hW, hZ]
    have := Bk.new ((w.alloc (.cells #[.slice h.A L.length h.c] 32)).alloc (.cells #[.slice k.h.A0 o.st.f0.length k.h.c0, .slice k.h.A1 o.st.f1.length k.h.c1, .slice k.h.A2 o.st.f2.length k.h.c2, .slice k.h.A3 o.st.f3.length k.h.c3, .slice k.h.A4 o.st.f4.length k.h.c4, .slice k.n.A o.n.length k.n.c, .slice k.v.A o.v.length k.v.c, .slice k.l.A o.l.length k.l.c, .slice k.k.A o.k.length k.k.c, .slice k.f.A o.f.length k.f.c] 53)) #[.int .u64 0, .slice none 0 0, .slice none 0 0, .slice none 0 0, .int .u64 0, .int .u64 0, .int .u64 0, .int .u64 0, .int .u64 0, .int .u64 0, .int .u64 0, .int .u64 0] TG
    rwa [World.size_alloc, World.size_alloc] at this
  have sZ : Z.size = 12 := by rw [hZ]; rfl
  have P0 := Lib.hid (hP.below bW hB)
  have R0 := Lib.hid (hR.below bW hB)
  have BW := Lib.hid bW
  have K1 := Lib.hid k1
  have K2 := Lib.hid k2
  have HN := Lib.hid N
  have HP := Lib.hid P
  have sWa := Nat.le_of_eq sW
  have sWb := Nat.le_of_eq sW.symm
  have HW := Lib.hid hW
  have c0 : W.cell? ⟨w.heap.size, 0, none⟩ = some (.slice h.A L.length h.c) := k0.cell 0
  have l0 := k0.lt
  have y0 : W.cell? ⟨w.heap.size + 1, 0, none⟩ = some (.slice k.h.A0 o.st.f0.length k.h.c0) := k1.cell 0
  have y1 : W.cell? ⟨w.heap.size + 1, 1, none⟩ = some (.slice k.h.A1 o.st.f1.length k.h.c1) := k1.cell 1
  have y2 : W.cell? ⟨w.heap.size + 1, 2, none⟩ = some (.slice k.h.A2 o.st.f2.length k.h.c2) := k1.cell 2
  have y3 : W.cell? ⟨w.heap.size + 1, 3, none⟩ = some (.slice k.h.A3 o.st.f3.length k.h.c3) := k1.cell 3
  have y4 : W.cell? ⟨w.heap.size + 1, 4, none⟩ = some (.slice k.h.A4 o.st.f4.length k.h.c4) := k1.cell 4
  have l1 := k1.lt
  clear hW bW sW k0 k1 k2 hP hZ
  go_enter Try.func54, Try.ntmps54
  go_wp2_with (rw [← HW.out])
  refine (packed_any h L k.h o.st W B P0.out R0.out.s (by omega) HP.out).mono ?_
  rintro e w1 ⟨rfl, hb1⟩
  obtain ⟨E, hE⟩ : ∃ E, enc WS (wdF L o.st) = E := ⟨_, rfl⟩
  rw [hE]
  have HE := Lib.hid hE
  have B1 := Lib.hid (below_on BW.out hb1)
  have z1 := hb1.size
  have K11 := Lib.hid (K1.out.below hb1 K1.out.lt)
  have K21 := Lib.hid (K2.out.below hb1 K2.out.lt)
  have R1 := Lib.hid (R0.out.below hb1 (by omega))
  have c5 : w1.cell? ⟨w.heap.size + 1, 5, none⟩ = some (.slice k.n.A o.n.length k.n.c) := K11.out.cell 5
  have l1' := K11.out.lt
  clear hb1 hE c0 l0 y0 y1 y2 y3 y4 K1 K2 R0 P0
  have start := Lib.hid (show PkG w1 (w1.alloc (.cells #[.int .u64 E, .slice none 0 0, .slice none 0 0, .slice none 0 0, .int .u64 0, .int .u64 0, .int .u64 0, .int .u64 0, .int .u64 0, .int .u64 0, .int .u64 0, .int .u64 0] TG)) w1.heap.size E 0 (fun p => (o.n.getD p []).length) o.n (fun _ => 0) from
    ⟨Nat.le_refl _, (Below.refl _ _).alloc (Nat.le_refl _) _, Bk.new _ _ _, fun p hp => absurd hp (by omega), fun p q _ hq => absurd hq (by omega)⟩)
  have hn3 := HN.out.n3
  go_wp2_with fail
  go_loopw [18] (fun i wr => ∃ (p : Nat) (D : Nat → Nat), p ≤ 3 ∧ i = .int .i64 p ∧ PkG w1 wr w1.heap.size E p (fun p => (o.n.getD p []).length) o.n D) (fun i _ => 3 - (intOf i).toNat)
  case atStart => exact ⟨0, _, Nat.zero_le _, rfl, start.out⟩
  case round =>
    obtain ⟨p, D, hp3, rfl, hg⟩ := hrel
    clear start c5
    have hz := hg.bel.size
    have lb := hg.box.lt
    by_cases hlt : p < 3
    · obtain ⟨bb, off, r, q, hA, hbb, hr, -, hc, hrr⟩ := R1.out.n.at_ (show p < o.n.length by omega)
      have hgd : o.n.getD p [] = r := by rw [List.getD, hr]; rfl
      obtain ⟨lr1, lr2⟩ := HN.out.l r (List.mem_of_getElem? hr)
      have hne := HN.out.e r (List.mem_of_getElem? hr)
      have hmk := make_any Try.underlying73 hi hz0 r.length (by rw [hz2]; omega) (by omega)
      rw [hz1, Nat.mul_one] at hmk
      have hcr : wr.cell? ⟨bb, off + p, none⟩ = some (.slice q.A r.length q.c) := (hg.bel.cell (p := ⟨bb, off + p, none⟩) (show bb < w1.heap.size by omega)).trans hc
      obtain ⟨D2, hD2⟩ : ∃ D2 : Nat → Nat, (fun q => if q = p then wr.heap.size else D q) = D2 := ⟨_, rfl⟩
      have start2 := Lib.hid (show PkG w1 ((wr.setCell ⟨w1.heap.size, 1 + p, none⟩ (.slice (some ⟨wr.heap.size, 0, none⟩) r.length r.length)).alloc (.cells (madeCells #[.int .u64 0] r.length) TU)) w1.heap.size E (p + 1) (mJ o.n p 0) o.n D2 by
        have := hg.next hlt (madeCells #[.int .u64 0] r.length) (by rw [hgd]; simp [size_madeCells]) (mJ o.n p 0) (fun q hq => by unfold mJ; rw [if_neg (by omega)]) (by unfold mJ; rw [if_pos rfl])
        rw [hgd, hD2] at this
        exact this)
      obtain ⟨v0, e0⟩ := hg.box.some_ (i := 1 + p) (by show 1 + p < 12; omega)
      have f0 := hg.box.free (1 + p)
      have hbw : bb < wr.heap.size := by omega
      have hpi : (p : Int) < 3 := by omega
      have HRR := Lib.hid hrr
      have HNE := Lib.hid hne
      have HGD := Lib.hid hgd
      clear hr hc hrr hne hg hD2 hgd
      rw [hA]
      obtain ⟨mc, hmc⟩ : ∃ mc, madeCells (Value.cells (.int .u64 0)) r.length = mc := ⟨_, rfl⟩
      have hmc2 : madeCells #[.int .u64 0] r.length = mc := hmc
      rw [hmc] at hmk
      rw [hmc2] at start2
      have hBw1 : B ≤ w1.heap.size := by omega
      clear hz0 hz1 hz2 hi hB hmc hmc2
      obtain ⟨n, hn⟩ : ∃ n, r.length = n := ⟨_, rfl⟩
      simp only [hn] at hmk start2 hcr lr1 lr2 ⊢
      have HRL := Lib.hid hn
      clear hn
      have hn16 : (n : Int) ≤ 16 := by omega
      go_wp2_with fail
      clear hmk e0 f0 hcr
      go_loopw [31] (fun i w2 => ∃ j : Nat, j ≤ n ∧ i = .int .i64 j ∧ PkG w1 w2 w1.heap.size E (p + 1) (mJ o.n p j) o.n D2) (fun i _ => n - (intOf i).toNat)
      case atStart => exact ⟨0, Nat.zero_le _, rfl, start2.out⟩
      case round =>
        obtain ⟨j, hj, rfl, hg⟩ := hrel
        clear start2
        have hz2 := hg.bel.size
        by_cases hjl : j < n
        · obtain ⟨b2, o2, x, q2, hA2, hb2, hx, -, hnt, hvw⟩ := HRR.out.at_ (show j < r.length by rw [HRL.out]; exact hjl)
          obtain ⟨t0, t1, t2⟩ := hnt
          obtain ⟨x0, x3, w3, wx⟩ := HNE.out x (List.mem_of_getElem? hx)
          obtain ⟨nv, hnv⟩ : ∃ nv : Nat, x.v = nv := ⟨x.v.toNat, by omega⟩
          have hn4 : nv < 4 := by omega
          rw [hnv] at t0
          have hji : (j : Int) < (n : Int) := by omega
          have hb2w : b2 < w1.heap.size := by omega
          have u0 := (hg.bel.cell (p := ⟨b2, o2 + j * 3, none⟩) hb2w).trans t0
          have u1 := (hg.bel.cell (p := ⟨b2, o2 + j * 3 + 1, none⟩) hb2w).trans t1
          have u2 := (hg.bel.cell (p := ⟨b2, o2 + j * 3 + 2, none⟩) hb2w).trans t2
          have hb2r : b2 < wr.heap.size := by omega
          have hokw := vwF_ok w3 wx
          obtain ⟨Ev, hEv⟩ : ∃ E, enc WV (vwF x.w) = E := ⟨_, rfl⟩
          obtain ⟨E5, hE5⟩ : ∃ E, enc WV (ntF x) = E := ⟨_, rfl⟩
          have hSW := Lib.hid (show ∀ V : World, Calls Try.prog 98 #[.int .u64 (Ev : Nat), .int .i64 nv, .bool x.g] V fun e w' => e = .returned (.int .u64 (E5 : Nat)) ∧ Below V.heap.size V w' from fun V => by
            have := storeword_any (vwF x.w) nv x.g V hokw hn4
            have e5 : enc WV (swF (vwF x.w) nv x.g) = E5 := by rw [← hE5]; unfold ntF; rw [hnv]; rfl
            rw [hEv, e5] at this
            exact this)
          have HE5 := Lib.hid hE5
          have HG := Lib.hid hg
          have HX := Lib.hid hx
          have HVW := Lib.hid (fun (V : World) (hV : Below w1.heap.size w1 V) => show Calls Try.prog 99 #[.slice q2.A x.w.length q2.c] V fun e w' => e = .returned (.int .u64 (Ev : Nat)) ∧ Below V.heap.size V w' by
            have := viewword_any q2.A x.w q2.c V B (hvw.below hV (by omega)) (by have := hV.size; omega) w3 wx
            rw [hEv] at this
            exact this)
          clear t0 t1 t2 hg hx hvw wx hokw hEv hE5 hnv x0 x3
          rw [hA2]
          go_wp2_with fail
          obtain ⟨V, hV⟩ : ∃ V, V = wr.alloc (.cells #[.int .i64 nv, .slice q2.A x.w.length q2.c, .bool x.g] 127) := ⟨_, rfl⟩
          rw [← hV]
          have bV : Below wr.heap.size wr V := by rw [hV]; exact (Below.refl _ _).alloc (Nat.le_refl _) _
          have KN : Bk V wr.heap.size 127 #[.int .i64 nv, .slice q2.A x.w.length q2.c, .bool x.g] := by rw [hV]; exact Bk.new _ _ _
          have GV := HG.out.grow bV
          have hGD := HGD.out
          have hRL := HRL.out
          have s0 : V.cell? ⟨w1.heap.size, 1 + p, none⟩ = some (.slice (some ⟨D2 p, 0, none⟩) n n) := by
            have := GV.box.cell (1 + p)
            rw [bgC_at _ _ hlt] at this
            unfold pkF9 at this
            rw [if_pos (by omega), hGD, hRL] at this
            exact this
          have g0 : ∀ y : Ws (Fr V []), y.val.cell? ⟨w1.heap.size, 1 + p, none⟩ = some (.slice (some ⟨D2 p, 0, none⟩) n n) := Ws.same (bs := []) GV.box.lt s0
          have g1 : ∀ y : Ws (Fr V []), y.val.cell? ⟨wr.heap.size, 0, none⟩ = some (.int .i64 nv) := Ws.same (bs := []) KN.lt (KN.cell 0)
          have g2 : ∀ y : Ws (Fr V []), y.val.cell? ⟨wr.heap.size, 1, none⟩ = some (.slice q2.A x.w.length q2.c) := Ws.same (bs := []) KN.lt (KN.cell 1)
          have g3 : ∀ y : Ws (Fr V []), y.val.cell? ⟨wr.heap.size, 2, none⟩ = some (.bool x.g) := Ws.same (bs := []) KN.lt (KN.cell 2)
          have HS := Lib.hid (fr_none V)
          haveI hne := Nonempty.intro (Ws.mk _ (fr_none V))
          have hzV := bV.size
          have Gv := Lib.hid (fun y : Ws (Fr V []) => HVW.out y.val (GV.bel.trans (y.ok.below.mono (show w1.heap.size ≤ V.heap.size by omega))))
          have HGV := Lib.hid GV
          clear hV bV KN GV s0 u0 u1 u2 HG HVW hGD hRL
          refine region_tail (C := In (Fr V [])) 13 (by kernel_rfl) (In.mk HS.out.drew) ?_
          simp only [List.take_succ_cons, List.take_zero, List.drop_succ_cons, List.drop_zero]
          repeat (go_big_quiet_step (first | (go_at_call 99; exact call_in (Gv.out _)) | (go_at_call 98; exact call_in (hSW.out _))))
          refine wpQuiet_nil ?_
          rintro _ ⟨y5, rfl⟩
          have b5 := y5.ok.below
          obtain ⟨w5, hw5⟩ : ∃ w5, w5 = y5.val := ⟨_, rfl⟩
          rw [← hw5] at b5 ⊢
          have G5 := HGV.out.grow b5
          obtain ⟨_, _, cs, c1, c2, -⟩ := G5.row p (by omega)
          rw [HGD.out, HRL.out] at c2
          obtain ⟨v0, e0⟩ := c1.some_ (i := j) (by omega)
          have f0 := c1.free j
          have Next := Lib.hid (show PkG w1 (w5.setCell ⟨D2 p, j, none⟩ (.int .u64 (E5 : Nat))) w1.heap.size E (p + 1) (mJ o.n p (j + 1)) o.n D2 by
            have := G5.put (m' := mJ o.n p (j + 1)) (j := j) (by rw [HGD.out]; exact HX.out) (by unfold mJ; rw [if_pos rfl]) (fun q hq => by unfold mJ; rw [if_neg (by omega), if_neg (by omega)]) (by unfold mJ; rw [if_pos rfl])
            have e5 := HE5.out
            unfold ntZ at this
            rw [e5] at this
            exact this)
          clear g0 g1 g2 g3 G5 c1 c2 hw5 b5 Gv hSW
          go_wp2
          go_roundw
          case rel => exact ⟨j + 1, by omega, by go_num, Next.out⟩
          case measure => simp [intOf]; omega
        · have hjn : j = n := by omega
          subst hjn
          have hji : ¬ (j : Int) < (j : Int) := by omega
          have full := Lib.hid (hg.rows (m' := fun q => (o.n.getD q []).length) (fun q hq => by
            unfold mJ
            by_cases e : q = p
            · rw [if_pos e, e]
              have h1 := HGD.out
              have h2 := HRL.out
              rw [h1, h2]; exact Nat.le_refl _
            · rw [if_neg e]; exact Nat.le_refl _))
          clear hg
          go_wp2
          go_roundw
          case rel => exact ⟨p + 1, D2, by omega, by go_num, full.out⟩
          case measure => simp [intOf]; omega
    · have hp4 : p = 3 := by omega
      subst hp4
      have hpi : ¬ ((3 : Nat) : Int) < 3 := by omega
      obtain ⟨H, hH⟩ : ∃ H : SgH, (⟨fun p => some ⟨D p, 0, none⟩, fun p => (o.n.getD p []).length⟩ : SgH) = H := ⟨_, rfl⟩
      obtain ⟨VA, hVA⟩ : ∃ VA : Array Value, VA = #[.slice k.h.A0 o.st.f0.length k.h.c0, .slice k.h.A1 o.st.f1.length k.h.c1, .slice k.h.A2 o.st.f2.length k.h.c2, .slice k.h.A3 o.st.f3.length k.h.c3, .slice k.h.A4 o.st.f4.length k.h.c4, .slice k.n.A o.n.length k.n.c, .slice k.v.A o.v.length k.v.c, .slice k.l.A o.l.length k.l.c, .slice k.k.A o.k.length k.k.c, .slice k.f.A o.f.length k.f.c] := ⟨_, rfl⟩
      have V6 : VA[6]? = some (.slice k.v.A o.v.length k.v.c) := by rw [hVA]; rfl
      have V7 : VA[7]? = some (.slice k.l.A o.l.length k.l.c) := by rw [hVA]; rfl
      have V8 : VA[8]? = some (.slice k.k.A o.k.length k.k.c) := by rw [hVA]; rfl
      have V9 : VA[9]? = some (.slice k.f.A o.f.length k.f.c) := by rw [hVA]; rfl
      have T0 := Lib.hid (show St9 w wr B w1.heap.size Z VA D k o (mkG H (sg0 L o)) by
        refine ⟨B1.out.trans (hg.bel.mono (by omega)), by omega, hB, ?_, ?_, ?_, R1.out.below hg.bel (by omega), hg.row⟩
        · have := hg.box
          rw [bgC_pk D o.n HE.out, hH] at this
          exact this
        · have := K11.out.below hg.bel K11.out.lt
          rw [hVA]; exact this
        · exact K21.out.below hg.bel K21.out.lt)
      obtain ⟨S0, hS0⟩ : ∃ S, sg0 L o = S := ⟨_, rfl⟩
      rw [hS0] at T0
      have HS0 := Lib.hid hS0
      have HH := Lib.hid hH
      have lv := HN.out.v
      have ll := HN.out.k
      have lc := HN.out.c
      have lf := HN.out.f
      have LV := Lib.hid lv.2
      have LL := Lib.hid ll.2
      have LC := Lib.hid lc.2
      have LF := Lib.hid lf.2
      have nv := lv.1
      have nl := ll.1
      have nc := lc.1
      have nf := lf.1
      have y6 : wr.cell? ⟨w.heap.size + 1, 6, none⟩ = some (.slice k.v.A o.v.length k.v.c) := (T0.out.vw.cell 6).trans V6
      have lvw := T0.out.vw.lt
      have rg := Lib.hid T0.out.box.range
      clear hg hz0 hz1 hz2 hi hR N P lv ll lc lf hS0 hH hVA K11 K21 R1
      go_wp2_with (refine ld_r sg_row rfl _ rfl w1.heap.size 0 rfl (mkG H S0) rg.out rfl ?_)
      have zb0 := T0.out.bel.size
      refine (withviews_any H S0 0 k.v o.v wr B T0.out.rd.v (by omega) (by omega) LV.out).mono ?_
      rintro e v1 ⟨rfl, hv1⟩
      have U1 := Lib.hid (T0.out.below hv1)
      have zv1 := hv1.size
      obtain ⟨S1, hS1⟩ : ∃ S, wvS S0 0 o.v = S := ⟨_, rfl⟩
      rw [hS1]
      have HS1 := Lib.hid hS1
      clear hS1 hv1 y6
      have bx1 := Lib.hid U1.out.box
      go_wp2_with (first | (refine ld_r sg_row rfl _ rfl w1.heap.size 0 rfl (mkG H S1) s1.bk.range rfl ?_) | (refine st_r sg_row rfl _ _ rfl w1.heap.size rfl TG _ (mkG H S1) rfl bx1.out (mkG_size _ _) rfl (mkG_one _ _) ?_; intro V1 s1; have T1 := Lib.hid (U1.out.put s1); have y7 : V1.cell? ⟨w.heap.size + 1, 7, none⟩ = some (.slice k.l.A o.l.length k.l.c) := (T1.out.vw.cell 7).trans V7; have l7 := T1.out.vw.lt))
      have zb1 := T1.out.bel.size
      refine (withviews_any H S1 3 k.l o.l V1 B T1.out.rd.l (by omega) (by omega) LL.out).mono ?_
      rintro e v2 ⟨rfl, hv2⟩
      have U2 := Lib.hid (T1.out.below hv2)
      have zv2 := hv2.size
      obtain ⟨S2, hS2⟩ : ∃ S, wvS S1 3 o.l = S := ⟨_, rfl⟩
      rw [hS2]
      have HS2 := Lib.hid hS2
      clear hS2 hv2
      have bx2 := Lib.hid U2.out.box
      go_wp2_with (first | (refine ld_r sg_row rfl _ rfl w1.heap.size 0 rfl (mkG H S2) s2.bk.range rfl ?_) | (refine st_r sg_row rfl _ _ rfl w1.heap.size rfl TG _ (mkG H S2) rfl bx2.out (mkG_size _ _) rfl (mkG_one _ _) ?_; intro V2 s2; have T2 := Lib.hid (U2.out.put s2); have y8 : V2.cell? ⟨w.heap.size + 1, 8, none⟩ = some (.slice k.k.A o.k.length k.k.c) := (T2.out.vw.cell 8).trans V8; have l8 := T2.out.vw.lt))
      have zb2 := T2.out.bel.size
      refine (withviews_any H S2 5 k.k o.k V2 B T2.out.rd.k (by omega) (by omega) LC.out).mono ?_
      rintro e v3 ⟨rfl, hv3⟩
      have U3 := Lib.hid (T2.out.below hv3)
      have zv3 := hv3.size
      obtain ⟨S3, hS3⟩ : ∃ S, wvS S2 5 o.k = S := ⟨_, rfl⟩
      rw [hS3]
      have HS3 := Lib.hid hS3
      clear hS3 hv3
      have bx3 := Lib.hid U3.out.box
      go_wp2_with (first | (refine ld_r sg_row rfl _ rfl w1.heap.size 0 rfl (mkG H S3) s3.bk.range rfl ?_) | (refine st_r sg_row rfl _ _ rfl w1.heap.size rfl TG _ (mkG H S3) rfl bx3.out (mkG_size _ _) rfl (mkG_one _ _) ?_; intro V3 s3; have T3 := Lib.hid (U3.out.put s3); have y9 : V3.cell? ⟨w.heap.size + 1, 9, none⟩ = some (.slice k.f.A o.f.length k.f.c) := (T3.out.vw.cell 9).trans V9; have l9 := T3.out.vw.lt))
      have zb3 := T3.out.bel.size
      obtain ⟨V4, hV4⟩ : ∃ V, V = V3.alloc (.cells #[.slice k.f.A o.f.length k.f.c] 25) := ⟨_, rfl⟩
      rw [← hV4]
      have b4 : Below V3.heap.size V3 V4 := by rw [hV4]; exact (Below.refl _ _).alloc (Nat.le_refl _) _
      have KF : Bk V4 V3.heap.size 25 #[.slice k.f.A o.f.length k.f.c] := by rw [hV4]; exact Bk.new _ _ _
      have T4 := T3.out.below b4
      have z4 := b4.size
      have IF : IssR V4 V4.heap.size ⟨some ⟨V3.heap.size, 0, none⟩, 1⟩ [o.f] := ⟨fun _ => ⟨V3.heap.size, 0, rfl, KF.lt, fun i vs hi => by
        cases i with
        | succ i => simp [vsIss] at hi
        | zero =>
          have e : vs = ints o.f := by simp [vsIss] at hi; exact hi.symm
          subst e
          refine ⟨k.f.A, k.f.c, ?_, T4.rd.f.up (Below.refl B V4) (Nat.le_refl _) (by omega)⟩
          rw [ints_length]
          exact KF.cell 0⟩⟩
      have T4h := Lib.hid T4
      have IFh := Lib.hid IF
      clear hV4 b4 KF T4 IF
      refine (withviews_any H S3 7 ⟨some ⟨V3.heap.size, 0, none⟩, 1⟩ [o.f] V4 V4.heap.size IFh.out (Nat.le_refl _) (by show 7 + 1 ≤ 8; omega) (fun xs hx => by
        have e := List.mem_singleton.1 hx
        subst e
        exact ⟨nf, LF.out⟩)).mono ?_
      rintro e v5 ⟨rfl, hv5⟩
      have U5 := Lib.hid (T4h.out.below hv5)
      obtain ⟨S4, hS4⟩ : ∃ S, wvS S3 7 [o.f] = S := ⟨_, rfl⟩
      rw [hS4]
      have HS4 := Lib.hid hS4
      have rs := Lib.hid U5.out.res
      clear hS4 hv5
      go_wp2_with (refine st_r sg_row rfl _ _ rfl (w.heap.size + 1 + 1) rfl TG _ (mkG H S4) rfl rs.out sZ rfl (mkG_one _ _) ?_; intro V5 s5)
      refine bodyPost_ret (v := .agg (mkG H S4)) (res_r sg_row rfl rfl s5.bk rfl) rfl ?_
      have hsg : sgF L o = S4 := by unfold sgF; rw [HS0.out, HS1.out, HS2.out, HS3.out, HS4.out]
      refine ⟨H, by rw [hsg], U5.out.bel.trans (s5.bel _ (by omega)), ?_⟩
      have hrows : ∀ p, p < 3 → D p < V5.heap.size ∧ RowP V5 (D p) (o.n.getD p []) (o.n.getD p []).length := fun p hp => by
        obtain ⟨a, b, c⟩ := U5.out.row p hp
        have z5 := s5.size
        have g5 := U5.out.g0
        exact ⟨by omega, c.stored s5 (by omega)⟩
      intro p hp
      have := pk_rd (f := fun _ => 0) (V := fun _ _ => 0) (c := fun _ => 0) hrows p hp
      rw [← HH.out]
      exact this
end Go.Proofs.Ytaghidaamcnpkab
