/-
  Boxes that hold records of many cells: they are read and written whole, whatever their cells are.
-/
import Derived.Test.YtaghidaamcnpkabWord
import Derived.Test.YtaghidaamcnpkabOrdS
import Derived.Test.YtaghidaamcnpkabVs
import Derived.Deep.MidRow
import Derived.Test.YtaghidaamcnpkabFrame
namespace Go.Proofs.Ytaghidaamcnpkab
open Go.RowKit Pl
set_option maxHeartbeats 1000000
set_option maxRecDepth 100000
set_option linter.unusedVariables false

theorem entry_any (j W i : Nat) (w : World) (hj : j < 11) (hW : W < 18446744073709551616) (hi : i < fC j) (r : Int) (hr : Hid ((wget W (fS j i) (fB j) : Nat) + fL j = r)) :
    Calls Try.prog 104 #[.int .u64 W, .int .i64 j, .int .i64 i] w fun e w' => e = .returned (.int .i64 r) ∧ Below w.heap.size w w' := by
  rw [← hr.out]
  match j, hj with
  | 0, _ => exact entry_0 W i w hW hi
  | 1, _ => exact entry_1 W i w hW hi
  | 2, _ => exact entry_2 W i w hW hi
  | 3, _ => exact entry_3 W i w hW hi
  | 4, _ => exact entry_4 W i w hW hi
  | 5, _ => exact entry_5 W i w hW hi
  | 6, _ => exact entry_6 W i w hW hi
  | 7, _ => exact entry_7 W i w hW hi
  | 8, _ => exact entry_8 W i w hW hi
  | 9, _ => exact entry_9 W i w hW hi
  | 10, _ => exact entry_10 W i w hW hi
theorem withEntry_any (j W i v : Nat) (n : Int) (w : World) (hj : j < 11) (hW : W < 18446744073709551616) (hi : i < fC j) (hv : v < 2 ^ fB j) (hn : n = (v : Int) + fL j) (R : Nat) (hR : Hid (wset W (fS j i) (fB j) v = R)) :
    Calls Try.prog 107 #[.int .u64 W, .int .i64 j, .int .i64 i, .int .i64 n] w fun e w' => e = .returned (.int .u64 (R : Int)) ∧ Below w.heap.size w w' := by
  rw [← hR.out]
  match j, hj with
  | 0, _ => exact withEntry_0 W i v n w hW hi hv hn
  | 1, _ => exact withEntry_1 W i v n w hW hi hv hn
  | 2, _ => exact withEntry_2 W i v n w hW hi hv hn
  | 3, _ => exact withEntry_3 W i v n w hW hi hv hn
  | 4, _ => exact withEntry_4 W i v n w hW hi hv hn
  | 5, _ => exact withEntry_5 W i v n w hW hi hv hn
  | 6, _ => exact withEntry_6 W i v n w hW hi hv hn
  | 7, _ => exact withEntry_7 W i v n w hW hi hv hn
  | 8, _ => exact withEntry_8 W i v n w hW hi hv hn
  | 9, _ => exact withEntry_9 W i v n w hW hi hv hn
  | 10, _ => exact withEntry_10 W i v n w hW hi hv hn

/-- The numbers of field j stand in words of the form ws from place b on. -/
def Fld (ws : List Nat) (j b : Nat) : Prop := j < 11 ∧ ws.sum ≤ 46 ∧ ∀ i, i < fC j → b + i < ws.length ∧ shf ws (b + i) = fS j i ∧ wid ws (b + i) = fB j
theorem fld0 : Fld WS 0 3 := by unfold Fld; decide
theorem fld1 : Fld WS 1 6 := by unfold Fld; decide
theorem fld2 : Fld WS 2 15 := by unfold Fld; decide
theorem fld3 : Fld WS 3 18 := by unfold Fld; decide
theorem fld4 : Fld WS 4 20 := by unfold Fld; decide
theorem fld5 : Fld WS 5 0 := by unfold Fld; decide
theorem flo1 : Fld WO 1 0 := by unfold Fld; decide
theorem flo2 : Fld WO 2 9 := by unfold Fld; decide
theorem flo6 : Fld WO 6 13 := by unfold Fld; decide
/-- The numbers of the clocks' words. -/
def WC : List Nat := [8, 8, 8]
theorem flc7 : Fld WC 7 0 := by unfold Fld; decide
/-- The numbers of the words of views and of stores: whether one is glued, its value, and the stamps. -/
def WV : List Nat := [1, 2, 13, 13, 13]
theorem flv8 : Fld WV 8 2 := by unfold Fld; decide
theorem flv9 : Fld WV 9 1 := by unfold Fld; decide
theorem flv10 : Fld WV 10 0 := by unfold Fld; decide

section
variable {ws : List Nat} {j b : Nat} {f : Nat → Nat}
theorem enc_small (F : Fld ws j b) (h : okF ws f) : enc ws f < 18446744073709551616 := by
  have h1 := enc_lt h
  have h2 : 2 ^ ws.sum ≤ 2 ^ 46 := Nat.pow_le_pow_right (by omega) F.2.1
  omega
theorem entF (F : Fld ws j b) (h : okF ws f) (i : Nat) (hi : i < fC j) (w : World) (r : Int) (hr : Hid ((f (b + i) : Nat) + fL j = r)) :
    Calls Try.prog 104 #[.int .u64 (enc ws f : Nat), .int .i64 j, .int .i64 i] w fun e w' => e = .returned (.int .i64 r) ∧ Below w.heap.size w w' := by
  obtain ⟨h1, h2, h3⟩ := F.2.2 i hi
  refine entry_any j (enc ws f) i w F.1 (enc_small F h) hi r (Lib.hid ?_)
  rw [← h2, ← h3, enc_get h h1]
  exact hr.out
theorem wentF (F : Fld ws j b) (h : okF ws f) (i v : Nat) (n : Int) (hi : i < fC j) (hv : v < 2 ^ fB j) (hn : n = (v : Int) + fL j) (w : World) :
    Calls Try.prog 107 #[.int .u64 (enc ws f : Nat), .int .i64 j, .int .i64 i, .int .i64 n] w fun e w' => e = .returned (.int .u64 (enc ws (upd f (b + i) v) : Nat)) ∧ Below w.heap.size w w' := by
  obtain ⟨h1, h2, h3⟩ := F.2.2 i hi
  refine withEntry_any j (enc ws f) i v n w F.1 (enc_small F h) hi hv hn _ (Lib.hid ?_)
  rw [(enc_set h h1 (by rw [h3]; exact hv)).2, h2, h3]
theorem okF_upd (F : Fld ws j b) (h : okF ws f) {i v : Nat} (hi : i < fC j) (hv : v < 2 ^ fB j) : okF ws (upd f (b + i) v) := by
  obtain ⟨h1, h2, h3⟩ := F.2.2 i hi
  exact (enc_set h h1 (by rw [h3]; exact hv)).1
theorem fld_lt (F : Fld ws j b) (h : okF ws f) {i : Nat} (hi : i < fC j) : f (b + i) < 2 ^ fB j := by
  obtain ⟨h1, h2, h3⟩ := F.2.2 i hi
  have := okF_at h h1
  rwa [h3] at this
end
/-- A list of numbers written into a field, from its first place on. -/
def updL (f : Nat → Nat) (b : Nat) : List Nat → Nat → Nat
  | [] => f
  | v :: r => updL (upd f b v) (b + 1) r
theorem updL_at (vs : List Nat) : ∀ (f : Nat → Nat) (b q : Nat), updL f b vs q = if b ≤ q ∧ q < b + vs.length then vs.getD (q - b) 0 else f q := by
  induction vs with
  | nil => intro f b q; simp [updL]; intro h1 h2; omega
  | cons v r ih =>
    intro f b q
    rw [updL, ih]
    by_cases h1 : b + 1 ≤ q ∧ q < b + 1 + r.length
    · rw [if_pos h1, if_pos (by simp; omega), show q - b = (q - (b + 1)) + 1 by omega]
      simp
    · rw [if_neg h1]
      by_cases h2 : q = b
      · subst h2; simp [upd]
      · rw [if_neg (by simp; omega)]; simp [upd, h2]
theorem updL_take (f : Nat → Nat) (b : Nat) (vs : List Nat) (k : Nat) (v : Nat) (h : vs[k]? = some v) : upd (updL f b (vs.take k)) (b + k) v = updL f b (vs.take (k + 1)) := by
  have hk := (List.getElem?_eq_some_iff.1 h).1
  funext q
  rw [updL_at]
  unfold upd
  rw [updL_at]
  simp only [List.length_take]
  by_cases h1 : q = b + k
  · subst h1
    rw [if_pos rfl, if_pos (by omega), show b + k - b = k by omega, List.getD, List.getElem?_take, if_pos (by omega), h]
    rfl
  · rw [if_neg h1]
    by_cases h2 : b ≤ q ∧ q < b + min k vs.length
    · rw [if_pos h2, if_pos (by omega)]
      simp only [List.getD, List.getElem?_take]
      rw [if_pos (by omega), if_pos (by omega)]
    · rw [if_neg h2, if_neg (by omega)]
/-- The numbers of a field, as the program hands them out. -/
def fldI (f : Nat → Nat) (b : Nat) (l : Int) (n : Nat) : List Int := (List.range n).map fun i => (f (b + i) : Int) + l
theorem fldI_length (f : Nat → Nat) (b : Nat) (l : Int) (n : Nat) : (fldI f b l n).length = n := by simp [fldI]
theorem fldI_at {f : Nat → Nat} {b : Nat} {l : Int} {n k : Nat} (h : k < n) : (fldI f b l n)[k]? = some ((f (b + k) : Int) + l) := by simp [fldI, h]

theorem okF_updL {ws : List Nat} {j b : Nat} (F : Fld ws j b) (vs : List Nat) : ∀ (f : Nat → Nat) (k : Nat), okF ws f → k + vs.length ≤ fC j → (∀ v ∈ vs, v < 2 ^ fB j) → okF ws (updL f (b + k) vs) := by
  induction vs with
  | nil => intro f k h _ _; exact h
  | cons v r ih =>
    intro f k h hl hv
    simp at hl
    have := ih (upd f (b + k) v) (k + 1) (okF_upd F h (by omega) (hv v (by simp))) (by omega) (fun u hu => hv u (by simp [hu]))
    rw [updL]
    exact this

theorem entries_any (ws : List Nat) (j b : Nat) (f : Nat → Nat) (n : Nat) (w : World) (F : Fld ws j b) (h : okF ws f) (hn : n ≤ fC j) :
    Calls Try.prog 105 #[.int .u64 (enc ws f : Nat), .int .i64 j, .int .i64 n] w fun e w' => e = .returned (.slice (some ⟨w.heap.size, 0, none⟩) n n) ∧ CopyV w w' 3 (ints (fldI f b (fL j) n)) n := by
  obtain ⟨i0, hi, hz0, hz1, hz2⟩ := info_parts Try.info3
  have hn9 : n ≤ 9 := by
    have : fC j ≤ 9 := by unfold fC; repeat (first | omega | split)
    omega
  have hmk := make_any Try.underlying25 hi hz0 n (by rw [hz2]; omega) (by omega)
  rw [hz1, Nat.mul_one] at hmk
  have start := Lib.hid (show CopyV w (w.alloc (.cells (madeCells #[.int .i64 0] n) 3)) 3 (ints (fldI f b (fL j) n)) 0 from
    ⟨(Below.refl _ _).alloc (Nat.le_refl _) _, _, Bk.new _ _ _, by simp [size_madeCells, fldI_length], fun j x hj => absurd hj (by omega)⟩)
  clear hz0 hz1 hz2 hi
  generalize hW : enc ws f = W at *
  have HW := Lib.hid hW
  clear hW
  go_enter Try.func105, Try.ntmps105
  go_wp2
  go_loopw [13] (fun i wr => ∃ k : Nat, k ≤ n ∧ i = .int .i64 k ∧ CopyV w wr 3 (ints (fldI f b (fL j) n)) k) (fun i _ => n - (intOf i).toNat)
  case atStart => exact ⟨0, Nat.zero_le _, rfl, start.out⟩
  case round =>
    obtain ⟨k, hk, rfl, hcp⟩ := hrel
    clear start hmk
    by_cases hlt : k < n
    · obtain ⟨hbel, cs, hbk, hsz, -⟩ := id hcp
      rw [ints_length, fldI_length] at hsz
      have Hx := Lib.hid (ints_at (fldI_at (f := f) (b := b) (l := fL j) hlt))
      obtain ⟨x, hx⟩ : ∃ x, (f (b + k) : Int) + fL j = x := ⟨_, rfl⟩
      rw [hx] at Hx
      have HX := Lib.hid hx
      have Hcp := Lib.hid hcp
      have hkc : k < fC j := by omega
      have kb := Lib.hid hbk
      have hg := hbk.lt
      clear hx hbk hbel hcp
      go_wp2_with fail
      rw [← HW.out]
      refine (entF F h k hkc wr x HX).mono ?_
      rintro e w1 ⟨rfl, hb1⟩
      have kb1 := kb.out.below hb1 hg
      obtain ⟨v0, e0⟩ := kb1.some_ (i := k) (by omega)
      have q0 := kb1.free k
      have hcp1 : CopyV w w1 3 (ints (fldI f b (fL j) n)) k := ⟨below_on Hcp.out.1 hb1, by
        obtain ⟨_, cs', hb', hs', hc'⟩ := Hcp.out
        exact ⟨cs', hb'.below hb1 hb'.lt, hs', hc'⟩⟩
      have Hc1 := Lib.hid hcp1
      clear kb1 hcp1 hb1
      rw [HW.out]
      go_wp2
      go_roundw
      case rel => exact ⟨k + 1, by omega, by go_num, Hc1.out.next Hx.out⟩
      case measure => simp [intOf]; omega
    · have hkn : k = n := by omega
      subst hkn
      go_wp2
      go_ret
      exact ⟨rfl, hcp⟩

theorem withEntries_any (ws : List Nat) (j b : Nat) (f : Nat → Nat) (A : Option Addr) (xs : List Int) (vs : List Nat) (c : Nat) (w : World) (B : Nat) (F : Fld ws j b) (h : okF ws f) (hV : Vs w B A (ints xs)) (hB : B ≤ w.heap.size) (hn : xs.length ≤ fC j) (hvl : vs.length = xs.length)
    (hv : Hid (∀ v ∈ vs, v < 2 ^ fB j)) (hx : Hid (∀ (k v : Nat), vs[k]? = some v → xs[k]? = some ((v : Int) + fL j))) :
    Calls Try.prog 106 #[.int .u64 (enc ws f : Nat), .int .i64 j, .slice A xs.length c] w fun e w' => e = .returned (.int .u64 (enc ws (updL f b vs) : Nat)) ∧ Below w.heap.size w w' := by
  have hn9 : xs.length ≤ 9 := by
    have : fC j ≤ 9 := by unfold fC; repeat (first | omega | split)
    omega
  go_enter Try.func106, Try.ntmps106
  go_wp2
  go_loopw [0, 11] (fun x i wr => ∃ k : Nat, k ≤ xs.length ∧ i = .int .i64 k ∧ x = .int .u64 (enc ws (updL f b (vs.take k)) : Nat) ∧ Below w.heap.size w wr) (fun _ i _ => xs.length - (intOf i).toNat)
  case atStart => exact ⟨0, Nat.zero_le _, rfl, by simp [updL], Below.refl _ _⟩
  case round =>
    obtain ⟨k, hk, rfl, rfl, hbel⟩ := hrel
    by_cases hlt : k < xs.length
    · obtain ⟨bb, off, x, rfl, hb, hxk, -, hx0⟩ := (hV.below hbel hB).int_ hlt
      obtain ⟨v, hvk⟩ : ∃ v, vs[k]? = some v := ⟨_, List.getElem?_eq_getElem (by omega)⟩
      have hxv := hx.out k v hvk
      have hxe : x = (v : Int) + fL j := by rw [hxk] at hxv; injection hxv
      have hvlt := hv.out v (List.mem_of_getElem? hvk)
      have hok : okF ws (updL f b (vs.take k)) := by
        have := okF_updL F (vs.take k) f 0 h (by rw [List.length_take]; omega) (fun u hu => hv.out u (List.mem_of_mem_take hu))
        simpa using this
      have Hok := Lib.hid hok
      have Hxe := Lib.hid hxe
      have Hvk := Lib.hid hvk
      have Hb := Lib.hid hbel
      clear hxe hxv hvk hok hxk hbel
      go_wp2_with fail
      refine (wentF F Hok.out k v x (by omega) hvlt Hxe.out wr).mono ?_
      rintro e w1 ⟨rfl, hb1⟩
      have Hb1 := Lib.hid (below_on Hb.out hb1)
      clear hb1
      go_wp2
      go_roundw
      case rel => exact ⟨k + 1, by omega, by go_num, by rw [updL_take f b vs k v Hvk.out], Hb1.out⟩
      case measure => simp [intOf]; omega
    · have hkl : k = vs.length := by omega
      subst hkl
      rw [List.take_length]
      go_wp2
      go_ret
      exact ⟨rfl, hbel⟩
end Go.Proofs.Ytaghidaamcnpkab
namespace Go.Proofs.Ytaghidaamcnpkab
open Go.RowKit Pl Go.BigFrame
set_option maxRecDepth 100000
set_option linter.unusedVariables false

theorem Bk.range {w : World} {g : Nat} {t : TypeId} {q : Array Value} (h : Bk w g t q) : w.rangeAt g 0 q.toList := fun j v hv => by
  rw [Nat.zero_add, h.cell j]
  simpa using hv
theorem Bk.there {w : World} {g : Nat} {t : TypeId} {q : Array Value} {n : Nat} (h : Bk w g t q) (hn : n ≤ q.size) : w.there g 0 n := fun j hj => by
  rw [Nat.zero_add]
  obtain ⟨v, hv⟩ := h.some_ (i := j) (by omega)
  exact ⟨by rw [hv]; rfl, h.free j⟩
theorem set_heap (g : Nat) : ∀ (vs : List Value) (o : Nat) (w : World) (i : Nat), i ≠ g → (w.setCells g o vs).heap[i]? = w.heap[i]?
  | [], _, _, _, _ => rfl
  | v :: r, o, w, i, h => by
    rw [World.setCells, set_heap g r (o + 1) _ i h]
    exact Below.heap_setCell w ⟨g, o, none⟩ v i h
theorem set_size (g : Nat) : ∀ (vs : List Value) (o : Nat) (w : World), (w.setCells g o vs).heap.size = w.heap.size
  | [], _, _ => rfl
  | v :: r, o, w => by rw [World.setCells, set_size g r (o + 1) _]; simp
theorem set_below {B : Nat} (g : Nat) (hB : B ≤ g) : ∀ (vs : List Value) (o : Nat) {u w : World}, Below B u w → Below B u (w.setCells g o vs)
  | [], _, _, _, h => h
  | v :: r, o, u, w, h => by rw [World.setCells]; exact set_below g hB r (o + 1) (h.setCell (p := ⟨g, o, none⟩) hB v)
/-- The cells behind a store of a list from place o on. -/
def putAll (q : Array Value) : Nat → List Value → Array Value
  | _, [] => q
  | o, v :: r => putAll (q.setIfInBounds o v) (o + 1) r
theorem set_bk {t : TypeId} (g : Nat) : ∀ (vs : List Value) (o : Nat) {w : World} {q : Array Value}, Bk w g t q → Bk (w.setCells g o vs) g t (putAll q o vs)
  | [], _, _, _, h => h
  | v :: r, o, w, q, h => by rw [World.setCells]; exact set_bk g r (o + 1) (h.set o v)
theorem putAll_size : ∀ (vs : List Value) (q : Array Value) (o : Nat), (putAll q o vs).size = q.size
  | [], _, _ => rfl
  | v :: r, q, o => by rw [putAll, putAll_size r]; simp
theorem putAll_out : ∀ (vs : List Value) (q : Array Value) (o i : Nat), i < o → (putAll q o vs)[i]? = q[i]?
  | [], _, _, _, _ => rfl
  | v :: r, q, o, i, h => by rw [putAll, putAll_out r _ _ i (by omega), Array.getElem?_setIfInBounds_ne (by omega)]
theorem putAll_in : ∀ (vs : List Value) (q : Array Value) (o i : Nat), o + vs.length ≤ q.size → i < vs.length → (putAll q o vs)[o + i]? = vs[i]?
  | [], _, _, _, _, h => by simp at h
  | v :: r, q, o, i, hq, h => by
    rw [List.length_cons] at hq h
    cases i with
    | zero =>
      have h2 := putAll_out r (q.setIfInBounds o v) (o + 1) o (by omega)
      rw [Array.getElem?_setIfInBounds_self_of_lt (by omega)] at h2
      exact h2
    | succ i =>
      rw [putAll, show o + (i + 1) = o + 1 + i by omega, putAll_in r _ (o + 1) i (by simp; omega) (by omega)]
      rfl
theorem putAll_whole (q q' : Array Value) (h : q.size = q'.size) : putAll q 0 q'.toList = q' := by
  apply Array.ext_getElem?
  intro i
  rcases Nat.lt_or_ge i q'.size with hi | hi
  · have := putAll_in q'.toList q 0 i (by simp; omega) (by simpa using hi)
    rw [Nat.zero_add] at this
    rw [this]; simp
  · rw [Array.getElem?_eq_none (by rw [putAll_size]; omega), Array.getElem?_eq_none hi]
/-- What a store of a whole record leaves: the box holds it, all else is as it was. -/
structure Stored (w w' : World) (g : Nat) (t : TypeId) (q : Array Value) : Prop where
  bk : Bk w' g t q
  size : w'.heap.size = w.heap.size
  far : ∀ i, i ≠ g → w'.heap[i]? = w.heap[i]?
  bel : ∀ B, B ≤ g → Below B w w'
theorem stored {w : World} {g : Nat} {t : TypeId} {q0 q : Array Value} (h : Bk w g t q0) (hs : q0.size = q.size) : Stored w (w.setCells g 0 q.toList) g t q :=
  ⟨by have := set_bk g q.toList 0 h; rwa [putAll_whole q0 q hs] at this, set_size g _ 0 w, fun i hi => set_heap g _ 0 w i hi, fun B hB => set_below g hB _ 0 (Below.refl _ _)⟩
theorem Stored.other {w w' : World} {g g2 : Nat} {t t2 : TypeId} {q q2 : Array Value} (h : Stored w w' g t q) (h2 : Bk w g2 t2 q2) (hn : g2 ≠ g) : Bk w' g2 t2 q2 := (h.far g2 hn).trans h2

/-! ### any record -/
/-- A type of records of n cells. -/
structure RowT (T : TypeId) (n : Nat) : Prop where
  i : (Try.prog.info? T).map (·.size) = some n
  u : ∃ d, Try.prog.underlying T = some d ∧ d.isRow = true
theorem ld_r {T : TypeId} {n : Nat} (hT : RowT T n) {ops : Array Oper} {rest : List Oper} {op : Oper} {a : Act} {w : World} {Q : Exit → Act → World → Prop} (hw : Region.wanted op (yielded ops a.tmps) = true) (x : Operand) (ho : op.op = .load T x)
    (g o : Nat) (hx : a.eval x = .pointer (some ⟨g, o, none⟩)) (q : Array Value) (hb : w.rangeAt g o q.toList) (hs : q.size = n)
    (h : wpList Try.prog ops Q rest (a.put op.dst (.agg q)) w) : wpList Try.prog ops Q (op :: rest) a w := by
  obtain ⟨d, hu, hd⟩ := hT.u
  refine BigFrame.wpList_want hw fun K hK => ?_
  have := wp_load_mid (P := Try.prog) (K := K) (Q := Q) T x ho g o hx q.toList d hb hu hd (by rw [hT.i]; simp [hs])
  exact this (hK _ _ (by simpa using h))
theorem st_r {T : TypeId} {n : Nat} (hT : RowT T n) {ops : Array Oper} {rest : List Oper} {op : Oper} {a : Act} {w : World} {Q : Exit → Act → World → Prop} (hgd : op.guard = none) (x y : Operand) (ho : op.op = .store T x y)
    (g : Nat) (hx : a.eval x = .pointer (some ⟨g, 0, none⟩)) (t : TypeId) (q0 q : Array Value) (hy : a.eval y = .agg q) (hb : Bk w g t q0) (h0 : q0.size = n) (hs : q.size = n) (h1 : q.all (·.oneCell') = true)
    (h : ∀ w', Stored w w' g t q → wpList Try.prog ops Q rest (a.put op.dst undef) w') : wpList Try.prog ops Q (op :: rest) a w :=
  wpList_store_mid (P := Try.prog) hgd T x y ho g 0 q hx hy (hb.there (by omega)) (by rw [hT.i, hs]) h1 (h _ (stored hb (by omega)))
theorem qd_r {T : TypeId} {n : Nat} (hT : RowT T n) {ops : Array Oper} {rest : List Oper} {o : Oper} {a : Act} {C : World → Prop} {Q : Act → Prop} (hw : Region.wanted o (yielded ops a.tmps) = true) (x : Operand) (ho : o.op = .load T x)
    (g f : Nat) (hx : a.eval x = .pointer (some ⟨g, f, none⟩)) (q : Array Value) (hs : q.size = n) (hb : ∀ w, C w → w.rangeAt g f q.toList)
    (h : wpQuiet Try.prog ops C Q rest (a.put o.dst (.agg q))) : wpQuiet Try.prog ops C Q (o :: rest) a := by
  obtain ⟨d, hu, hd⟩ := hT.u
  refine BigFrame.wpQuiet_want hw fun K hK => ⟨.agg q, fun w hw => ?_, hK _ h⟩
  have hl := run_loadVar_mid (P := Try.prog) w g f T q.toList d (hb w hw) hu hd (by rw [hT.i]; simp [hs])
  unfold Oper.quietAt execOp
  simp only [ho, hx, Instr.loadAt, Instr.sureAddr, Sem.run_bind, Sem.run_pure, Result.andThen_ok, hl]
  exact ⟨rfl, rfl⟩
theorem res_r {T : TypeId} {n : Nat} (hT : RowT T n) {fn : Func} {p : Tmp} (h : fn.results = #[.cell p T]) {tmps : Array Value} {w : World} {g : Nat} {t : TypeId} {q : Array Value} (hp : tmps.getD p undef = .pointer (some ⟨g, 0, none⟩)) (hb : Bk w g t q) (hs : q.size = n) :
    (results fn tmps).run Try.prog w = .ok (.agg q) w := by
  obtain ⟨d, hu, hd⟩ := hT.u
  have hl := run_loadVar_mid (P := Try.prog) w g 0 T q.toList d hb.range hu hd (by rw [hT.i]; simp [hs])
  simp only [results, h]
  simp [Sem.run_bind]
  rw [show tmps[p]?.getD undef = .pointer (some ⟨g, 0, none⟩) by simpa [Array.getD_eq_getD_getElem?] using hp]
  simp [asAddr, hl]
theorem res_r2 {T : TypeId} {n : Nat} (hT : RowT T n) {fn : Func} {p u : Tmp} (h : fn.results = #[.cell p T, .tmp u]) {tmps : Array Value} {w : World} {g : Nat} {t : TypeId} {q : Array Value} {v : Value} (hp : tmps.getD p undef = .pointer (some ⟨g, 0, none⟩)) (hv : tmps.getD u undef = v) (hb : Bk w g t q) (hs : q.size = n) :
    (results fn tmps).run Try.prog w = .ok (.tuple #[.agg q, v]) w := by
  obtain ⟨d, hu, hd⟩ := hT.u
  have hl := run_loadVar_mid (P := Try.prog) w g 0 T q.toList d hb.range hu hd (by rw [hT.i]; simp [hs])
  simp only [results, h]
  simp [Sem.run_bind]
  rw [show tmps[p]?.getD undef = .pointer (some ⟨g, 0, none⟩) by simpa [Array.getD_eq_getD_getElem?] using hp]
  simp [asAddr, hl]
  simpa [Array.getD_eq_getD_getElem?] using hv
theorem Bk.rangeOf {w : World} {g : Nat} {t : TypeId} {q : Array Value} (h : Bk w g t q) (o : Nat) (cs : Array Value) (hc : ∀ j v, cs[j]? = some v → q[o + j]? = some v) : w.rangeAt g o cs.toList := fun j v hv => by
  rw [h.cell (o + j)]
  exact hc j v (by simpa using hv)
end Go.Proofs.Ytaghidaamcnpkab
