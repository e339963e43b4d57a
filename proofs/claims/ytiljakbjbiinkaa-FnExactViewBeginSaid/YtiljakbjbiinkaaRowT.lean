/-
  Boxes that hold records of many cells: they are read and written whole, whatever their cells are.
-/
import Derived.Test.YtiljakbjbiinkaaOwn
import Derived.Deep.MidRow
import Derived.Test.YtiljakbjbiinkaaFrame
namespace Go.Proofs.Ytiljakbjbiinkaa
open Go.RowKit Pl Go.BigFrame
set_option maxRecDepth 100000
set_option linter.unusedVariables false

theorem Bk.range {w : World} {g : Nat} {t : TypeId} {q : Array Value} (h : Bk w g t q) : w.rangeAt g 0 q.toList := fun j v hv => by
  rw [Nat.zero_add, h.cell j]
  simpa using hv
theorem Bk.there {w : World} {g : Nat} {t : TypeId} {q : Array Value} {n : Nat} (h : Bk w g t q) (hn : n ≤ q.size) : w.there g 0 n := fun j hj => by
  rw [Nat.zero_add]
  obtain ⟨v, hv⟩ := h.some_ (i := j) (by omega)
  exact ⟨by rw [hv]; rfl, h.free j⟩
theorem set_heap (g : Nat) : ∀ (vs : List Value) (o : Nat) (w : World) (i : Nat), i ≠ g → (w.setCells g o vs).heap[i]? = w.heap[i]?
  | [], _, _, _, _ => rfl
  | v :: r, o, w, i, h => by
    rw [World.setCells, set_heap g r (o + 1) _ i h]
    exact Below.heap_setCell w ⟨g, o, none⟩ v i h
theorem set_size (g : Nat) : ∀ (vs : List Value) (o : Nat) (w : World), (w.setCells g o vs).heap.size = w.heap.size
  | [], _, _ => rfl
  | v :: r, o, w => by rw [World.setCells, set_size g r (o + 1) _]; simp
theorem set_below {B : Nat} (g : Nat) (hB : B ≤ g) : ∀ (vs : List Value) (o : Nat) {u w : World}, Below B u w → Below B u (w.setCells g o vs)
  | [], _, _, _, h => h
  | v :: r, o, u, w, h => by rw [World.setCells]; exact set_below g hB r (o + 1) (h.setCell (p := ⟨g, o, none⟩) hB v)
/-- The cells behind a store of a list from place o on. -/
def putAll (q : Array Value) : Nat → List Value → Array Value
  | _, [] => q
  | o, v :: r => putAll (q.setIfInBounds o v) (o + 1) r
theorem set_bk {t : TypeId} (g : Nat) : ∀ (vs : List Value) (o : Nat) {w : World} {q : Array Value}, Bk w g t q → Bk (w.setCells g o vs) g t (putAll q o vs)
  | [], _, _, _, h => h
  | v :: r, o, w, q, h => by rw [World.setCells]; exact set_bk g r (o + 1) (h.set o v)
theorem putAll_size : ∀ (vs : List Value) (q : Array Value) (o : Nat), (putAll q o vs).size = q.size
  | [], _, _ => rfl
  | v :: r, q, o => by rw [putAll, putAll_size r]; simp
theorem putAll_out : ∀ (vs : List Value) (q : Array Value) (o i : Nat), i < o → (putAll q o vs)[i]? = q[i]?
  | [], _, _, _, _ => rfl
  | v :: r, q, o, i, h => by rw [putAll, putAll_out r _ _ i (by omega), Array.getElem?_setIfInBounds_ne (by omega)]
theorem putAll_in : ∀ (vs : List Value) (q : Array Value) (o i : Nat), o + vs.length ≤ q.size → i < vs.length → (putAll q o vs)[o + i]? = vs[i]?
  | [], _, _, _, _, h => by simp at h
  | v :: r, q, o, i, hq, h => by
    rw [List.length_cons] at hq h
    cases i with
    | zero =>
      have h2 := putAll_out r (q.setIfInBounds o v) (o + 1) o (by omega)
      rw [Array.getElem?_setIfInBounds_self_of_lt (by omega)] at h2
      exact h2
    | succ i =>
      rw [putAll, show o + (i + 1) = o + 1 + i by omega, putAll_in r _ (o + 1) i (by simp; omega) (by omega)]
      rfl
theorem putAll_whole (q q' : Array Value) (h : q.size = q'.size) : putAll q 0 q'.toList = q' := by
  apply Array.ext_getElem?
  intro i
  rcases Nat.lt_or_ge i q'.size with hi | hi
  · have := putAll_in q'.toList q 0 i (by simp; omega) (by simpa using hi)
    rw [Nat.zero_add] at this
    rw [this]; simp
  · rw [Array.getElem?_eq_none (by rw [putAll_size]; omega), Array.getElem?_eq_none hi]
/-- What a store of a whole record leaves: the box holds it, all else is as it was. -/
structure Stored (w w' : World) (g : Nat) (t : TypeId) (q : Array Value) : Prop where
  bk : Bk w' g t q
  size : w'.heap.size = w.heap.size
  far : ∀ i, i ≠ g → w'.heap[i]? = w.heap[i]?
  bel : ∀ B, B ≤ g → Below B w w'
theorem stored {w : World} {g : Nat} {t : TypeId} {q0 q : Array Value} (h : Bk w g t q0) (hs : q0.size = q.size) : Stored w (w.setCells g 0 q.toList) g t q :=
  ⟨by have := set_bk g q.toList 0 h; rwa [putAll_whole q0 q hs] at this, set_size g _ 0 w, fun i hi => set_heap g _ 0 w i hi, fun B hB => set_below g hB _ 0 (Below.refl _ _)⟩
theorem Stored.other {w w' : World} {g g2 : Nat} {t t2 : TypeId} {q q2 : Array Value} (h : Stored w w' g t q) (h2 : Bk w g2 t2 q2) (hn : g2 ≠ g) : Bk w' g2 t2 q2 := (h.far g2 hn).trans h2

/-! ### any record -/
/-- A type of records of n cells. -/
structure RowT (T : TypeId) (n : Nat) : Prop where
  i : (Try.prog.info? T).map (·.size) = some n
  u : ∃ d, Try.prog.underlying T = some d ∧ d.isRow = true
theorem ld_r {T : TypeId} {n : Nat} (hT : RowT T n) {ops : Array Oper} {rest : List Oper} {op : Oper} {a : Act} {w : World} {Q : Exit → Act → World → Prop} (hw : Region.wanted op (yielded ops a.tmps) = true) (x : Operand) (ho : op.op = .load T x)
    (g o : Nat) (hx : a.eval x = .pointer (some ⟨g, o, none⟩)) (q : Array Value) (hb : w.rangeAt g o q.toList) (hs : q.size = n)
    (h : wpList Try.prog ops Q rest (a.put op.dst (.agg q)) w) : wpList Try.prog ops Q (op :: rest) a w := by
  obtain ⟨d, hu, hd⟩ := hT.u
  refine BigFrame.wpList_want hw fun K hK => ?_
  have := wp_load_mid (P := Try.prog) (K := K) (Q := Q) T x ho g o hx q.toList d hb hu hd (by rw [hT.i]; simp [hs])
  exact this (hK _ _ (by simpa using h))
theorem st_r {T : TypeId} {n : Nat} (hT : RowT T n) {ops : Array Oper} {rest : List Oper} {op : Oper} {a : Act} {w : World} {Q : Exit → Act → World → Prop} (hgd : op.guard = none) (x y : Operand) (ho : op.op = .store T x y)
    (g : Nat) (hx : a.eval x = .pointer (some ⟨g, 0, none⟩)) (t : TypeId) (q0 q : Array Value) (hy : a.eval y = .agg q) (hb : Bk w g t q0) (h0 : q0.size = n) (hs : q.size = n) (h1 : q.all (·.oneCell') = true)
    (h : ∀ w', Stored w w' g t q → wpList Try.prog ops Q rest (a.put op.dst undef) w') : wpList Try.prog ops Q (op :: rest) a w :=
  wpList_store_mid (P := Try.prog) hgd T x y ho g 0 q hx hy (hb.there (by omega)) (by rw [hT.i, hs]) h1 (h _ (stored hb (by omega)))
theorem qd_r {T : TypeId} {n : Nat} (hT : RowT T n) {ops : Array Oper} {rest : List Oper} {o : Oper} {a : Act} {C : World → Prop} {Q : Act → Prop} (hw : Region.wanted o (yielded ops a.tmps) = true) (x : Operand) (ho : o.op = .load T x)
    (g f : Nat) (hx : a.eval x = .pointer (some ⟨g, f, none⟩)) (q : Array Value) (hs : q.size = n) (hb : ∀ w, C w → w.rangeAt g f q.toList)
    (h : wpQuiet Try.prog ops C Q rest (a.put o.dst (.agg q))) : wpQuiet Try.prog ops C Q (o :: rest) a := by
  obtain ⟨d, hu, hd⟩ := hT.u
  refine BigFrame.wpQuiet_want hw fun K hK => ⟨.agg q, fun w hw => ?_, hK _ h⟩
  have hl := run_loadVar_mid (P := Try.prog) w g f T q.toList d (hb w hw) hu hd (by rw [hT.i]; simp [hs])
  unfold Oper.quietAt execOp
  simp only [ho, hx, Instr.loadAt, Instr.sureAddr, Sem.run_bind, Sem.run_pure, Result.andThen_ok, hl]
  exact ⟨rfl, rfl⟩
theorem res_r {T : TypeId} {n : Nat} (hT : RowT T n) {fn : Func} {p : Tmp} (h : fn.results = #[.cell p T]) {tmps : Array Value} {w : World} {g : Nat} {t : TypeId} {q : Array Value} (hp : tmps.getD p undef = .pointer (some ⟨g, 0, none⟩)) (hb : Bk w g t q) (hs : q.size = n) :
    (results fn tmps).run Try.prog w = .ok (.agg q) w := by
  obtain ⟨d, hu, hd⟩ := hT.u
  have hl := run_loadVar_mid (P := Try.prog) w g 0 T q.toList d hb.range hu hd (by rw [hT.i]; simp [hs])
  simp only [results, h]
  simp [Sem.run_bind]
  rw [show tmps[p]?.getD undef = .pointer (some ⟨g, 0, none⟩) by simpa [Array.getD_eq_getD_getElem?] using hp]
  simp [asAddr, hl]
theorem res_r2 {T : TypeId} {n : Nat} (hT : RowT T n) {fn : Func} {p u : Tmp} (h : fn.results = #[.cell p T, .tmp u]) {tmps : Array Value} {w : World} {g : Nat} {t : TypeId} {q : Array Value} {v : Value} (hp : tmps.getD p undef = .pointer (some ⟨g, 0, none⟩)) (hv : tmps.getD u undef = v) (hb : Bk w g t q) (hs : q.size = n) :
    (results fn tmps).run Try.prog w = .ok (.tuple #[.agg q, v]) w := by
  obtain ⟨d, hu, hd⟩ := hT.u
  have hl := run_loadVar_mid (P := Try.prog) w g 0 T q.toList d hb.range hu hd (by rw [hT.i]; simp [hs])
  simp only [results, h]
  simp [Sem.run_bind]
  rw [show tmps[p]?.getD undef = .pointer (some ⟨g, 0, none⟩) by simpa [Array.getD_eq_getD_getElem?] using hp]
  simp [asAddr, hl]
  simpa [Array.getD_eq_getD_getElem?] using hv
theorem Bk.rangeOf {w : World} {g : Nat} {t : TypeId} {q : Array Value} (h : Bk w g t q) (o : Nat) (cs : Array Value) (hc : ∀ j v, cs[j]? = some v → q[o + j]? = some v) : w.rangeAt g o cs.toList := fun j v hv => by
  rw [h.cell (o + j)]
  exact hc j v (by simpa using hv)
end Go.Proofs.Ytiljakbjbiinkaa
