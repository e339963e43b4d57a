/-
  States with buffers, plainly: which buffer is whose, and the marks of those that are not empty. A thread has e buffers, one or one for each place.
-/
import Derived.Test.YtnadihepgmbhaaaOwn
import Derived.Deep.MidRow
import Derived.Test.YtnadihepgmbhaaaFrame
import Derived.Test.YtnadihepgmbhaaaBfP
import Derived.Test.YtnadihepgmbhaaaWordF
namespace Go.Proofs.Ytnadihepgmbhaaa
open Go.RowKit Pl Go.BigFrame
set_option maxRecDepth 100000
set_option linter.unusedVariables false

/-- The numbers of a queued: how many buffers a thread has, the word, the buffers, the marks. -/
def mkQ (e W m : Nat) (n : Nat → Nat) : Array Value :=
  #[.int .i64 e, .int .u64 W, .int .u64 (n 0 : Nat), .int .u64 (n 1 : Nat), .int .u64 (n 2 : Nat), .int .u64 (n 3 : Nat), .int .u64 (n 4 : Nat), .int .u64 (n 5 : Nat), .int .u64 (n 6 : Nat), .int .u64 (n 7 : Nat), .int .u64 (n 8 : Nat), .int .u64 m]
theorem mkQ_size (e W m : Nat) (n : Nat → Nat) : (mkQ e W m n).size = 12 := rfl
theorem mkQ_one (e W m : Nat) (n : Nat → Nat) : (mkQ e W m n).all (·.oneCell') = true := by simp [mkQ, Value.oneCell']
theorem mkQ_0 (e W m : Nat) (n : Nat → Nat) : (mkQ e W m n)[0]? = some (.int .i64 e) := rfl
theorem mkQ_1 (e W m : Nat) (n : Nat → Nat) : (mkQ e W m n)[1]? = some (.int .u64 W) := rfl
theorem mkQ_11 (e W m : Nat) (n : Nat → Nat) : (mkQ e W m n)[11]? = some (.int .u64 m) := rfl
theorem nine {k : Nat} (h : k < 9) : k = 0 ∨ k = 1 ∨ k = 2 ∨ k = 3 ∨ k = 4 ∨ k = 5 ∨ k = 6 ∨ k = 7 ∨ k = 8 := by omega
theorem mkQ_k (e W m : Nat) (n : Nat → Nat) {k : Nat} (h : k < 9) : (mkQ e W m n)[2 + k]? = some (.int .u64 (n k : Nat)) := by
  rcases nine h with rfl | rfl | rfl | rfl | rfl | rfl | rfl | rfl | rfl <;> rfl
def setN (n : Nat → Nat) (k v : Nat) : Nat → Nat := fun i => if i = k then v else n i
theorem mkQ_set1 (e W m W' : Nat) (n : Nat → Nat) : (mkQ e W m n).setIfInBounds 1 (.int .u64 W') = mkQ e W' m n := rfl
theorem mkQ_set11 (e W m m' : Nat) (n : Nat → Nat) : (mkQ e W m n).setIfInBounds 11 (.int .u64 m') = mkQ e W m' n := rfl
theorem mkQ_setk (e W m v : Nat) (n : Nat → Nat) {k : Nat} (h : k < 9) : (mkQ e W m n).setIfInBounds (2 + k) (.int .u64 v) = mkQ e W m (setN n k v) := by
  rcases nine h with rfl | rfl | rfl | rfl | rfl | rfl | rfl | rfl | rfl <;> rfl

theorem Bk.range {w : World} {g : Nat} {t : TypeId} {q : Array Value} (h : Bk w g t q) : w.rangeAt g 0 q.toList := fun j v hv => by
  rw [Nat.zero_add, h.cell j]
  simpa using hv
theorem Bk.there {w : World} {g : Nat} {t : TypeId} {q : Array Value} {n : Nat} (h : Bk w g t q) (hn : n ≤ q.size) : w.there g 0 n := fun j hj => by
  rw [Nat.zero_add]
  obtain ⟨v, hv⟩ := h.some_ (i := j) (by omega)
  exact ⟨by rw [hv]; rfl, h.free j⟩
theorem set_heap (g : Nat) : ∀ (vs : List Value) (o : Nat) (w : World) (i : Nat), i ≠ g → (w.setCells g o vs).heap[i]? = w.heap[i]?
  | [], _, _, _, _ => rfl
  | v :: r, o, w, i, h => by
    rw [World.setCells, set_heap g r (o + 1) _ i h]
    exact Below.heap_setCell w ⟨g, o, none⟩ v i h
theorem set_size (g : Nat) : ∀ (vs : List Value) (o : Nat) (w : World), (w.setCells g o vs).heap.size = w.heap.size
  | [], _, _ => rfl
  | v :: r, o, w => by rw [World.setCells, set_size g r (o + 1) _]; simp
theorem set_below {B : Nat} (g : Nat) (hB : B ≤ g) : ∀ (vs : List Value) (o : Nat) {u w : World}, Below B u w → Below B u (w.setCells g o vs)
  | [], _, _, _, h => h
  | v :: r, o, u, w, h => by rw [World.setCells]; exact set_below g hB r (o + 1) (h.setCell (p := ⟨g, o, none⟩) hB v)
/-- The cells behind a store of a list from place o on. -/
def putAll (q : Array Value) : Nat → List Value → Array Value
  | _, [] => q
  | o, v :: r => putAll (q.setIfInBounds o v) (o + 1) r
theorem set_bk {t : TypeId} (g : Nat) : ∀ (vs : List Value) (o : Nat) {w : World} {q : Array Value}, Bk w g t q → Bk (w.setCells g o vs) g t (putAll q o vs)
  | [], _, _, _, h => h
  | v :: r, o, w, q, h => by rw [World.setCells]; exact set_bk g r (o + 1) (h.set o v)
theorem putAll_size : ∀ (vs : List Value) (q : Array Value) (o : Nat), (putAll q o vs).size = q.size
  | [], _, _ => rfl
  | v :: r, q, o => by rw [putAll, putAll_size r]; simp
theorem putAll_out : ∀ (vs : List Value) (q : Array Value) (o i : Nat), i < o → (putAll q o vs)[i]? = q[i]?
  | [], _, _, _, _ => rfl
  | v :: r, q, o, i, h => by rw [putAll, putAll_out r _ _ i (by omega), Array.getElem?_setIfInBounds_ne (by omega)]
theorem putAll_in : ∀ (vs : List Value) (q : Array Value) (o i : Nat), o + vs.length ≤ q.size → i < vs.length → (putAll q o vs)[o + i]? = vs[i]?
  | [], _, _, _, _, h => by simp at h
  | v :: r, q, o, i, hq, h => by
    rw [List.length_cons] at hq h
    cases i with
    | zero =>
      have h2 := putAll_out r (q.setIfInBounds o v) (o + 1) o (by omega)
      rw [Array.getElem?_setIfInBounds_self_of_lt (by omega)] at h2
      exact h2
    | succ i =>
      rw [putAll, show o + (i + 1) = o + 1 + i by omega, putAll_in r _ (o + 1) i (by simp; omega) (by omega)]
      rfl
theorem putAll_whole (q q' : Array Value) (h : q.size = q'.size) : putAll q 0 q'.toList = q' := by
  apply Array.ext_getElem?
  intro i
  rcases Nat.lt_or_ge i q'.size with hi | hi
  · have := putAll_in q'.toList q 0 i (by simp; omega) (by simpa using hi)
    rw [Nat.zero_add] at this
    rw [this]; simp
  · rw [Array.getElem?_eq_none (by rw [putAll_size]; omega), Array.getElem?_eq_none hi]
/-- What a store of a whole record leaves: the box holds it, all else is as it was. -/
structure Stored (w w' : World) (g : Nat) (t : TypeId) (q : Array Value) : Prop where
  bk : Bk w' g t q
  size : w'.heap.size = w.heap.size
  far : ∀ i, i ≠ g → w'.heap[i]? = w.heap[i]?
  bel : ∀ B, B ≤ g → Below B w w'
theorem stored {w : World} {g : Nat} {t : TypeId} {q0 q : Array Value} (h : Bk w g t q0) (hs : q0.size = q.size) : Stored w (w.setCells g 0 q.toList) g t q :=
  ⟨by have := set_bk g q.toList 0 h; rwa [putAll_whole q0 q hs] at this, set_size g _ 0 w, fun i hi => set_heap g _ 0 w i hi, fun B hB => set_below g hB _ 0 (Below.refl _ _)⟩
theorem Stored.other {w w' : World} {g g2 : Nat} {t t2 : TypeId} {q q2 : Array Value} (h : Stored w w' g t q) (h2 : Bk w g2 t2 q2) (hn : g2 ≠ g) : Bk w' g2 t2 q2 := (h.far g2 hn).trans h2

abbrev TQ : TypeId := 80
theorem tq_info : (Try.prog.info? TQ).map (·.size) = some 12 := by kernel_rfl
theorem tq_under : ∃ d, Try.prog.underlying TQ = some d ∧ d.isRow = true := ⟨_, Try.underlying80, rfl⟩

/-- A whole record is read. -/
theorem ld_q {ops : Array Oper} {rest : List Oper} {op : Oper} {a : Act} {w : World} {Q : Exit → Act → World → Prop} (hgd : op.guard = none) (x : Operand) (ho : op.op = .load TQ x)
    (g : Nat) (hx : a.eval x = .pointer (some ⟨g, 0, none⟩)) (t : TypeId) (q : Array Value) (hb : Bk w g t q) (hs : q.size = 12)
    (h : wpList Try.prog ops Q rest (a.put op.dst (.agg q)) w) : wpList Try.prog ops Q (op :: rest) a w := by
  obtain ⟨d, hu, hd⟩ := tq_under
  have := wpList_load_mid (P := Try.prog) (ops := ops) (rest := rest) (Q := Q) hgd TQ x ho g 0 hx q.toList d hb.range hu hd (by rw [tq_info]; simp [hs])
  exact this (by simpa using h)
/-- A whole record is read, where its guard lets it be. -/
theorem ldg_q {ops : Array Oper} {rest : List Oper} {op : Oper} {a : Act} {w : World} {Q : Exit → Act → World → Prop} (hw : Region.wanted op (yielded ops a.tmps) = true) (x : Operand) (ho : op.op = .load TQ x)
    (g : Nat) (hx : a.eval x = .pointer (some ⟨g, 0, none⟩)) (t : TypeId) (q : Array Value) (hb : Bk w g t q) (hs : q.size = 12)
    (h : wpList Try.prog ops Q rest (a.put op.dst (.agg q)) w) : wpList Try.prog ops Q (op :: rest) a w := by
  obtain ⟨d, hu, hd⟩ := tq_under
  refine BigFrame.wpList_want hw fun K hK => ?_
  have := wp_load_mid (P := Try.prog) (K := K) (Q := Q) TQ x ho g 0 hx q.toList d hb.range hu hd (by rw [tq_info]; simp [hs])
  exact this (hK _ _ (by simpa using h))
/-- A whole record is written. -/
theorem st_q {ops : Array Oper} {rest : List Oper} {op : Oper} {a : Act} {w : World} {Q : Exit → Act → World → Prop} (hgd : op.guard = none) (x y : Operand) (ho : op.op = .store TQ x y)
    (g : Nat) (hx : a.eval x = .pointer (some ⟨g, 0, none⟩)) (t : TypeId) (q0 q : Array Value) (hy : a.eval y = .agg q) (hb : Bk w g t q0) (h0 : q0.size = 12) (hs : q.size = 12) (h1 : q.all (·.oneCell') = true)
    (h : ∀ w', Stored w w' g t q → wpList Try.prog ops Q rest (a.put op.dst undef) w') : wpList Try.prog ops Q (op :: rest) a w :=
  wpList_store_mid (P := Try.prog) hgd TQ x y ho g 0 q hx hy (hb.there (by omega)) (by rw [tq_info, hs]) h1 (h _ (stored hb (by omega)))
/-- A whole record is read in a region that draws its order. -/
theorem qd_q {ops : Array Oper} {rest : List Oper} {o : Oper} {a : Act} {C : World → Prop} {Q : Act → Prop} (hgd : o.guard = none) (x : Operand) (ho : o.op = .load TQ x)
    (g : Nat) (hx : a.eval x = .pointer (some ⟨g, 0, none⟩)) (t : TypeId) (q : Array Value) (hs : q.size = 12) (hb : ∀ w, C w → Bk w g t q)
    (h : wpQuiet Try.prog ops C Q rest (a.put o.dst (.agg q))) : wpQuiet Try.prog ops C Q (o :: rest) a := by
  obtain ⟨d, hu, hd⟩ := tq_under
  refine BigFrame.wpQuiet_want (by unfold Region.wanted; rw [hgd]) fun K hK => ⟨.agg q, fun w hw => ?_, hK _ h⟩
  have hl := run_loadVar_mid (P := Try.prog) w g 0 TQ q.toList d (hb w hw).range hu hd (by rw [tq_info]; simp [hs])
  unfold Oper.quietAt execOp
  simp only [ho, hx, Instr.loadAt, Instr.sureAddr, Sem.run_bind, Sem.run_pure, Result.andThen_ok, hl]
  exact ⟨rfl, rfl⟩
/-- What a function hands back out of its answer's box. -/
theorem res_q {fn : Func} {p : Tmp} (h : fn.results = #[.cell p TQ]) {tmps : Array Value} {w : World} {g : Nat} {t : TypeId} {q : Array Value} (hp : tmps.getD p undef = .pointer (some ⟨g, 0, none⟩)) (hb : Bk w g t q) (hs : q.size = 12) :
    (results fn tmps).run Try.prog w = .ok (.agg q) w := by
  obtain ⟨d, hu, hd⟩ := tq_under
  have hl := run_loadVar_mid (P := Try.prog) w g 0 TQ q.toList d hb.range hu hd (by rw [tq_info]; simp [hs])
  simp only [results, h]
  simp [Sem.run_bind]
  rw [show tmps[p]?.getD undef = .pointer (some ⟨g, 0, none⟩) by simpa [Array.getD_eq_getD_getElem?] using hp]
  simp [asAddr, hl]
/-! ### any record -/
/-- A type of records of n cells. -/
structure RowT (T : TypeId) (n : Nat) : Prop where
  i : (Try.prog.info? T).map (·.size) = some n
  u : ∃ d, Try.prog.underlying T = some d ∧ d.isRow = true
theorem tq_row : RowT TQ 12 := ⟨tq_info, tq_under⟩
theorem st_r {T : TypeId} {n : Nat} (hT : RowT T n) {ops : Array Oper} {rest : List Oper} {op : Oper} {a : Act} {w : World} {Q : Exit → Act → World → Prop} (hgd : op.guard = none) (x y : Operand) (ho : op.op = .store T x y)
    (g : Nat) (hx : a.eval x = .pointer (some ⟨g, 0, none⟩)) (t : TypeId) (q0 q : Array Value) (hy : a.eval y = .agg q) (hb : Bk w g t q0) (h0 : q0.size = n) (hs : q.size = n) (h1 : q.all (·.oneCell') = true)
    (h : ∀ w', Stored w w' g t q → wpList Try.prog ops Q rest (a.put op.dst undef) w') : wpList Try.prog ops Q (op :: rest) a w :=
  wpList_store_mid (P := Try.prog) hgd T x y ho g 0 q hx hy (hb.there (by omega)) (by rw [hT.i, hs]) h1 (h _ (stored hb (by omega)))
theorem res_r {T : TypeId} {n : Nat} (hT : RowT T n) {fn : Func} {p : Tmp} (h : fn.results = #[.cell p T]) {tmps : Array Value} {w : World} {g : Nat} {t : TypeId} {q : Array Value} (hp : tmps.getD p undef = .pointer (some ⟨g, 0, none⟩)) (hb : Bk w g t q) (hs : q.size = n) :
    (results fn tmps).run Try.prog w = .ok (.agg q) w := by
  obtain ⟨d, hu, hd⟩ := hT.u
  have hl := run_loadVar_mid (P := Try.prog) w g 0 T q.toList d hb.range hu hd (by rw [hT.i]; simp [hs])
  simp only [results, h]
  simp [Sem.run_bind]
  rw [show tmps[p]?.getD undef = .pointer (some ⟨g, 0, none⟩) by simpa [Array.getD_eq_getD_getElem?] using hp]
  simp [asAddr, hl]
theorem res_r2 {T : TypeId} {n : Nat} (hT : RowT T n) {fn : Func} {p u : Tmp} (h : fn.results = #[.cell p T, .tmp u]) {tmps : Array Value} {w : World} {g : Nat} {t : TypeId} {q : Array Value} {v : Value} (hp : tmps.getD p undef = .pointer (some ⟨g, 0, none⟩)) (hv : tmps.getD u undef = v) (hb : Bk w g t q) (hs : q.size = n) :
    (results fn tmps).run Try.prog w = .ok (.tuple #[.agg q, v]) w := by
  obtain ⟨d, hu, hd⟩ := hT.u
  have hl := run_loadVar_mid (P := Try.prog) w g 0 T q.toList d hb.range hu hd (by rw [hT.i]; simp [hs])
  simp only [results, h]
  simp [Sem.run_bind]
  rw [show tmps[p]?.getD undef = .pointer (some ⟨g, 0, none⟩) by simpa [Array.getD_eq_getD_getElem?] using hp]
  simp [asAddr, hl]
  simpa [Array.getD_eq_getD_getElem?] using hv
end Go.Proofs.Ytnadihepgmbhaaa
namespace Go.Proofs.Ytnadihepgmbhaaa
open Go.RowKit Pl Go.BigFrame
set_option maxRecDepth 100000
set_option linter.unusedVariables false

def Ech (e : Nat) : Prop := e = 1 ∨ e = 3
/-- The buffer of a thread for a place. -/
def bfi (e t p : Nat) : Nat := t * e + p % e
theorem bfi1 (t p : Nat) : bfi 1 t p = t := by unfold bfi; omega
theorem bfi3 (t p : Nat) (hp : p < 3) : bfi 3 t p = t * 3 + p := by unfold bfi; omega
theorem bfi_lt {e t p : Nat} (he : Ech e) (ht : t < 3) : bfi e t p < 9 := by
  unfold bfi
  rcases he with rfl | rfl <;> omega
theorem bfi_in {e t p n : Nat} (he : Ech e) (ht : t < n) : bfi e t p < n * e := by
  unfold bfi
  rcases he with rfl | rfl <;> omega
/-- The marks of the first n buffers. -/
def mkN (b : Nat → List Nat) : Nat → Nat
  | 0 => 0
  | n + 1 => (if (b n).isEmpty then 0 else 1) * 2 ^ n ||| mkN b n
theorem mkN_lt (b : Nat → List Nat) : ∀ n, mkN b n < 2 ^ n
  | 0 => by simp [mkN]
  | n + 1 => by
    have h := mkN_lt b n
    rw [mkN]
    refine Nat.or_lt_two_pow ?_ ?_
    · rw [Nat.pow_succ]
      have := Nat.pow_pos (n := n) (show 0 < 2 by omega)
      split <;> omega
    · rw [Nat.pow_succ]; omega
theorem mkN_bit (b : Nat → List Nat) (i : Nat) : ∀ n, (mkN b n).testBit i = (decide (i < n) && !(b i).isEmpty)
  | 0 => by simp [mkN]
  | n + 1 => by
    rw [mkN, Nat.testBit_or, mkN_bit b i n]
    by_cases e : i = n
    · subst e
      by_cases h : (b i).isEmpty = true
      · rw [if_pos h]; simp [h]
      · rw [if_neg h, Nat.one_mul, Nat.testBit_two_pow_self]
        simp only [Bool.true_or]
        simp at h
        simp [h]
    · have e2 : ((if (b n).isEmpty then 0 else 1) * 2 ^ n).testBit i = false := by
        split
        · simp
        · rw [Nat.one_mul]; exact Nat.testBit_two_pow_of_ne (fun h => e h.symm)
      rw [e2, Bool.false_or]
      have : decide (i < n + 1) = decide (i < n) := by
        by_cases h : i < n
        · simp [h]; omega
        · simp [h]; omega
      rw [this]
def mk9 (b : Nat → List Nat) : Nat := mkN b 9
theorem mk9_lt (b : Nat → List Nat) : mk9 b < 512 := mkN_lt b 9
theorem mk9_bit (b : Nat → List Nat) {i : Nat} (h : i < 9) : (mk9 b).testBit i = !(b i).isEmpty := by
  unfold mk9; rw [mkN_bit]; simp [h]
theorem mk9_hi (b : Nat → List Nat) {i : Nat} (h : 9 ≤ i) : (mk9 b).testBit i = false := by
  unfold mk9; rw [mkN_bit]; simp; omega
def updB (b : Nat → List Nat) (t : Nat) (v : List Nat) : Nat → List Nat := fun u => if u = t then v else b u
theorem updB_same (b : Nat → List Nat) (t : Nat) (v : List Nat) : updB b t v t = v := if_pos rfl
theorem updB_other (b : Nat → List Nat) {t u : Nat} (v : List Nat) (h : u ≠ t) : updB b t v u = b u := if_neg h
/-- The marks behind a turn of one buffer. -/
def putM (m k : Nat) (full : Bool) : Nat := if full then (m ^^^ (m &&& 2 ^ k)) ||| 2 ^ k else m ^^^ (m &&& 2 ^ k)
theorem putM_bit (m k : Nat) (full : Bool) (i : Nat) : (putM m k full).testBit i = if i = k then full else m.testBit i := by
  unfold putM
  by_cases e : i = k
  · subst e
    rw [if_pos rfl]
    cases full
    · rw [if_neg (by simp), Nat.testBit_xor, Nat.testBit_and, Nat.testBit_two_pow_self, Bool.and_true, Bool.xor_self]
    · rw [if_pos rfl, Nat.testBit_or, Nat.testBit_two_pow_self, Bool.or_true]
  · have e2 : (2 ^ k).testBit i = false := Nat.testBit_two_pow_of_ne (fun h => e h.symm)
    rw [if_neg e]
    cases full
    · rw [if_neg (by simp), Nat.testBit_xor, Nat.testBit_and, e2, Bool.and_false, Bool.xor_false]
    · rw [if_pos rfl, Nat.testBit_or, Nat.testBit_xor, Nat.testBit_and, e2, Bool.and_false, Bool.xor_false, Bool.or_false]
theorem mk9_put (b : Nat → List Nat) {k : Nat} (v : List Nat) (h : k < 9) : mk9 (updB b k v) = putM (mk9 b) k (!v.isEmpty) := by
  apply Nat.eq_of_testBit_eq
  intro i
  rw [putM_bit]
  rcases Nat.lt_or_ge i 9 with hi | hi
  · rw [mk9_bit _ hi]
    by_cases e : i = k
    · subst e; rw [if_pos rfl, updB_same]
    · rw [if_neg e, updB_other b v e, mk9_bit _ hi]
  · rw [mk9_hi _ hi, if_neg (by omega), mk9_hi _ hi]
theorem mk9_nil : mk9 (fun _ => []) = 0 := rfl
/-- Whether all buffers of a thread are empty. -/
def ownE (e : Nat) (b : Nat → List Nat) (t : Nat) : Bool := (List.range e).all fun j => (b (t * e + j)).isEmpty
theorem own_marks {e t : Nat} (b : Nat → List Nat) (he : Ech e) (ht : t < 3) : (mk9 b / 2 ^ (t * e) % 2 ^ e == 0) = ownE e b t := by
  rw [Bool.eq_iff_iff, beq_iff_eq]
  unfold ownE
  rw [List.all_eq_true]
  have hb : ∀ j, j < e → t * e + j < 9 := fun j hj => by rcases he with rfl | rfl <;> omega
  constructor
  · intro h j hj
    have hj := List.mem_range.1 hj
    have h2 : (mk9 b / 2 ^ (t * e) % 2 ^ e).testBit j = false := by rw [h]; simp
    rw [Nat.testBit_mod_two_pow, Nat.testBit_div_two_pow] at h2
    rw [show decide (j < e) = true by simp [hj], Bool.true_and, Nat.add_comm, mk9_bit b (hb j hj)] at h2
    simpa using h2
  · intro h
    apply Nat.eq_of_testBit_eq
    intro j
    rw [Nat.testBit_mod_two_pow, Nat.testBit_div_two_pow]
    by_cases hj : j < e
    · rw [Nat.add_comm, mk9_bit b (hb j hj), h j (List.mem_range.2 hj)]; simp
    · simp [hj]
/-- Buffers with at most m stores. -/
def okB9 (b : Nat → List Nat) (m : Nat) : Prop := ∀ t, t < 9 → okS (b t) ∧ (b t).length ≤ m
/-- A state with buffers as words. -/
abbrev QV (e : Nat) (f : Nat → Nat) (b : Nat → List Nat) : Value := .agg (mkQ e (enc WS f) (mk9 b) fun i => bwC (b i))
theorem qv_put (e W : Nat) (b : Nat → List Nat) {k : Nat} (v : List Nat) (h : k < 9) : mkQ e W (putM (mk9 b) k (!v.isEmpty)) (setN (fun i => bwC (b i)) k (bwC v)) = mkQ e W (mk9 (updB b k v)) fun i => bwC (updB b k v i) := by
  rw [mk9_put b v h]
  congr 1
  funext i
  unfold setN updB
  split <;> rfl
theorem bw_full (v : List Nat) : (!v.isEmpty) = decide (bwC v ≠ 0) := by
  cases v with
  | nil => rfl
  | cons c r =>
    have : bwC (c :: r) ≠ 0 := fun e => by have := bwC_zero.1 e; cases this
    simp [this]
end Go.Proofs.Ytnadihepgmbhaaa
