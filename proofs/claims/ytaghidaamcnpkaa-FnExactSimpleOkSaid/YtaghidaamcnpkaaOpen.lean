/-
  How a statement that came in reads: five cells, four of them int64 numbers and one a bool, whatever holds them.
-/
import Derived.Test.YtaghidaamcnpkaaStmts
import Derived.Deep.Slices
import Derived.Deep.Fields
import Derived.ChangeSame
import Derived.ShutString
import Derived.ChangeOld
namespace Go.Proofs.Ytaghidaamcnpkaa
open Go.ChangeShapes Go.WideShapes Go.ChangeAt Go.RowKit Go.Deep
set_option maxRecDepth 100000

theorem Try.own : ownKnob Try.prog.godebug = none := by kernel_rfl
theorem Try.laidOut : laidOutB Try.prog = true := by kernel_rfl

theorem five {α : Type} {l : List α} (h : l.length = 5) : ∃ c0 c1 c2 c3 c4, l = [c0, c1, c2, c3, c4] := by
  match l, h with
  | [c0, c1, c2, c3, c4], _ => exact ⟨c0, c1, c2, c3, c4, rfl⟩

section
variable {H : Type} {enc : TypeId × Value → H} {w : World} {base : Nat} {spare : Nat → Bool} {held : Bool}
/-- The shape of a statement's type. -/
def StmtType (t : TypeId) : Prop := ∃ fs : Array Field, Try.prog.underlying t = some (.struct fs) ∧ oneCellFields Try.prog fs = true ∧ Try.prog.cellsOf t = 5 ∧ (fs.map (·.type)) = #[3, 3, 3, 3, 4]
theorem lawsStmt : StmtType 106 := ⟨_, Try.underlying106, by kernel_rfl, by kernel_rfl, by kernel_rfl⟩
theorem implStmt : StmtType 46 := ⟨_, Try.underlying46, by kernel_rfl, by kernel_rfl, by kernel_rfl⟩

theorem stmt_cells {t : TypeId} {fuel : Nat} {cs : List Value} {x : DataW H × List MemPlace} (ht : StmtType t) (h : DataW.trod enc Try.prog w base spare held fuel t cs = some x) :
    ∃ (k a b c : Int) (s : Bool), cs = [.int .i64 k, .int .i64 a, .int .i64 b, .int .i64 c, .bool s] ∧ x.2 = [] ∧ (Lit.int .i64 k).wf = true ∧ (Lit.int .i64 a).wf = true ∧ (Lit.int .i64 b).wf = true ∧ (Lit.int .i64 c).wf = true := by
  obtain ⟨fs, hu, hone, hC, hty⟩ := ht
  obtain ⟨xs, n, _, rfl, hlen, hsz, hat⟩ := DataW.trod_struct hu h
  rw [hC] at hlen
  obtain ⟨c0, c1, c2, c3, c4, rfl⟩ := five hlen
  have hfs : fs.size = 5 := by have := congrArg Array.size hty; simpa using this
  rw [hfs] at hsz
  obtain ⟨y0, y1, y2, y3, y4, rfl⟩ := five hsz
  have at_ : ∀ (i : Nat) (hi : i < 5) (u : Nat), #[3, 3, 3, 3, 4][i]? = some u → DataW.trod enc Try.prog w base spare held n u (([c0, c1, c2, c3, c4].drop i).take 1) = [y0, y1, y2, y3, y4][i]? := by
    intro i hi u hu'
    have hf : fs[i]? = some (fs[i]'(by omega)) := Array.getElem?_eq_getElem (by omega)
    obtain ⟨ho, hk⟩ := hone_of hone i _ hf
    have := hat i _ hf
    rw [ho, hk] at this
    have he : (fs[i]'(by omega)).type = u := by
      have h2 : (fs.map (·.type))[i]? = some u := by rw [hty]; exact hu'
      rw [Array.getElem?_map, hf] at h2
      simpa using h2
    rw [he] at this
    exact this
  obtain ⟨k, e0, f0, w0⟩ := DataW.trod_int Try.underlying3 (by simpa using at_ 0 (by omega) _ rfl)
  obtain ⟨a, e1, f1, w1⟩ := DataW.trod_int Try.underlying3 (by simpa using at_ 1 (by omega) _ rfl)
  obtain ⟨b, e2, f2, w2⟩ := DataW.trod_int Try.underlying3 (by simpa using at_ 2 (by omega) _ rfl)
  obtain ⟨c, e3, f3, w3⟩ := DataW.trod_int Try.underlying3 (by simpa using at_ 3 (by omega) _ rfl)
  obtain ⟨s, e4, f4⟩ := DataW.trod_bool Try.underlying4 (by simpa using at_ 4 (by omega) _ rfl)
  simp at e0 e1 e2 e3 e4
  subst e0 e1 e2 e3 e4
  refine ⟨k, a, b, c, s, rfl, ?_, w0, w1, w2, w3⟩
  simp [f0, f1, f2, f3, f4]

theorem open_stmt {r : Reach} {b0 : Nat} {t : TypeId} {v : Value} {d : DataW H} {p : List MemPlace} (ht : StmtType t) (hv : Value.okWide Try.prog w r b0 t v) (h : DataW.Trod enc Try.prog w base spare held t v d p) :
    ∃ (k a b c : Int) (s : Bool), v = St k a b c s ∧ p = [] ∧ (Lit.int .i64 k).wf = true ∧ (Lit.int .i64 a).wf = true ∧ (Lit.int .i64 b).wf = true ∧ (Lit.int .i64 c).wf = true := by
  obtain ⟨cs, rfl, _⟩ := (show ∃ cs : Array Value, v = .agg cs ∧ cs.size = Try.prog.cellsOf t from by
    obtain ⟨fs, hu, _⟩ := ht; exact okWide_struct hu hv)
  obtain ⟨fuel, hf⟩ := h
  obtain ⟨k, a, b, c, s, e, hp, h0, h1, h2, h3⟩ := stmt_cells ht hf
  refine ⟨k, a, b, c, s, ?_, hp, h0, h1, h2, h3⟩
  simp only [Value.cells] at e
  have : cs = #[.int .i64 k, .int .i64 a, .int .i64 b, .int .i64 c, .bool s] := by
    apply Array.ext'; simpa using e
  rw [this]
end

end Go.Proofs.Ytaghidaamcnpkaa
