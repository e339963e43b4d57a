/-
  How an event that came in reads: two numbers and the five cells of a statement, whatever holds them.
-/
import Derived.Test.YtelbolmbajjebaaOpen
import Derived.Test.YtelbolmbajjebaaDep
namespace Go.Proofs.Ytelbolmbajjebaa
open Go.ChangeShapes Go.WideShapes Go.ChangeAt Go.RowKit Go.Deep
set_option maxRecDepth 100000

theorem seven {α : Type} {l : List α} (h : l.length = 7) : ∃ c0 c1 c2 c3 c4 c5 c6, l = [c0, c1, c2, c3, c4, c5, c6] := by
  match l, h with
  | [c0, c1, c2, c3, c4, c5, c6], _ => exact ⟨c0, c1, c2, c3, c4, c5, c6, rfl⟩
theorem three_ev {α : Type} {l : List α} (h : l.length = 3) : ∃ c0 c1 c2, l = [c0, c1, c2] := by
  match l, h with
  | [c0, c1, c2], _ => exact ⟨c0, c1, c2, rfl⟩

section
variable {H : Type} {enc : TypeId × Value → H} {w : World} {base : Nat} {spare : Nat → Bool} {held : Bool}
/-- The shape of an event's type. -/
def EventType (t : TypeId) : Prop := ∃ (fs : Array Field) (u : TypeId), Try.prog.underlying t = some (.struct fs) ∧ StmtType u ∧ Try.prog.cellsOf t = 7 ∧ (fs.map fun f => (f.type, f.offset, Try.prog.cellsOf f.type)) = #[(3, 0, 1), (3, 1, 1), (u, 2, 5)]
theorem lawsEvent : EventType 45 := ⟨_, 43, Try.underlying45, lawsStmt, by kernel_rfl, by kernel_rfl⟩
theorem implEvent : EventType 49 := ⟨_, 47, Try.underlying49, implStmt, by kernel_rfl, by kernel_rfl⟩

theorem event_cells {t : TypeId} {fuel : Nat} {cs : List Value} {x : DataW H × List MemPlace} (ht : EventType t) (h : DataW.trod enc Try.prog w base spare held fuel t cs = some x) :
    ∃ (n i k a b c : Int) (s : Bool), cs = [.int .i64 n, .int .i64 i, .int .i64 k, .int .i64 a, .int .i64 b, .int .i64 c, .bool s] ∧ x.2 = [] := by
  obtain ⟨fs, u, hu, hst, hC, hty⟩ := ht
  obtain ⟨xs, n, _, rfl, hlen, hsz, hat⟩ := DataW.trod_struct hu h
  rw [hC] at hlen
  obtain ⟨c0, c1, c2, c3, c4, c5, c6, rfl⟩ := seven hlen
  have hfs : fs.size = 3 := by have := congrArg Array.size hty; simpa using this
  rw [hfs] at hsz
  obtain ⟨y0, y1, y2, rfl⟩ := three_ev hsz
  have at_ : ∀ (i : Nat) (hi : i < 3) (v : Nat × Nat × Nat), #[(3, 0, 1), (3, 1, 1), (u, 2, 5)][i]? = some v → DataW.trod enc Try.prog w base spare held n v.1 (([c0, c1, c2, c3, c4, c5, c6].drop v.2.1).take v.2.2) = [y0, y1, y2][i]? := by
    intro i hi v hu'
    have hf : fs[i]? = some (fs[i]'(by omega)) := Array.getElem?_eq_getElem (by omega)
    have this := hat i _ hf
    have he : ((fs[i]'(by omega)).type, (fs[i]'(by omega)).offset, Try.prog.cellsOf (fs[i]'(by omega)).type) = v := by
      have h2 : (fs.map fun f => (f.type, f.offset, Try.prog.cellsOf f.type))[i]? = some v := by rw [hty]; exact hu'
      rw [Array.getElem?_map, hf] at h2
      simpa using h2
    subst he
    exact this
  obtain ⟨k, e0, f0, w0⟩ := DataW.trod_int Try.underlying3 (by simpa using at_ 0 (by omega) _ rfl)
  obtain ⟨a, e1, f1, w1⟩ := DataW.trod_int Try.underlying3 (by simpa using at_ 1 (by omega) _ rfl)
  obtain ⟨k', a', b', c', s', e2, f2, -⟩ := stmt_cells hst (by simpa using at_ 2 (by omega) _ rfl)
  simp at e0 e1 e2
  obtain ⟨rfl, rfl, rfl, rfl, rfl⟩ := e2
  subst e0 e1
  refine ⟨k, a, k', a', b', c', s', rfl, ?_⟩
  simp [f0, f1, f2]

theorem open_event {r : Reach} {b0 : Nat} {t : TypeId} {v : Value} {d : DataW H} {p : List MemPlace} (ht : EventType t) (hv : Value.okWide Try.prog w r b0 t v) (h : DataW.Trod enc Try.prog w base spare held t v d p) :
    ∃ (n i k a b c : Int) (s : Bool), v = Ev n i k a b c s ∧ p = [] := by
  obtain ⟨cs, rfl, _⟩ := (show ∃ cs : Array Value, v = .agg cs ∧ cs.size = Try.prog.cellsOf t from by
    obtain ⟨fs, u, hu, _⟩ := ht; exact okWide_struct hu hv)
  obtain ⟨fuel, hf⟩ := h
  obtain ⟨n, i, k, a, b, c, s, e, hp⟩ := event_cells ht hf
  refine ⟨n, i, k, a, b, c, s, ?_, hp⟩
  simp only [Value.cells] at e
  have : cs = #[.int .i64 n, .int .i64 i, .int .i64 k, .int .i64 a, .int .i64 b, .int .i64 c, .bool s] := by
    apply Array.ext'; simpa using e
  rw [this]
end
end Go.Proofs.Ytelbolmbajjebaa
