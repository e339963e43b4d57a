/-
  The contract of the program's spliced: a new thread of the call's own, the statements of one list put in between those of another one.
-/
import Derived.Test.YteinbbhhjalbeaaCopy
namespace Go.Proofs.Yteinbbhhjalbeaa
open Go.RowKit Pl
set_option maxHeartbeats 400000
set_option linter.unusedVariables false

theorem addr_add' (b off n : Nat) : (⟨b, off, none⟩ : Addr).add n = ⟨b, off + n, none⟩ := by
  unfold Addr.add
  split <;> simp_all
def flat (xs : List Sm) : List Value := xs.flatMap Sm.cells
theorem flat_length (xs : List Sm) : (flat xs).length = xs.length * 5 := by
  induction xs with
  | nil => rfl
  | cons x r ih =>
    rw [flat, List.flatMap_cons, List.length_append]
    have : (List.flatMap Sm.cells r).length = r.length * 5 := ih
    rw [this]
    simp [Sm.cells]; omega
theorem flat_append (xs ys : List Sm) : flat (xs ++ ys) = flat xs ++ flat ys := by simp [flat]
theorem flat_at {xs : List Sm} {j : Nat} {x : Sm} (h : xs[j]? = some x) : (flat xs)[j * 5]? = some (.int .i64 x.k) ∧ (flat xs)[j * 5 + 1]? = some (.int .i64 x.a) ∧ (flat xs)[j * 5 + 2]? = some (.int .i64 x.b) ∧ (flat xs)[j * 5 + 3]? = some (.int .i64 x.c) ∧ (flat xs)[j * 5 + 4]? = some (.bool x.s) := by
  induction xs generalizing j with
  | nil => simp at h
  | cons y r ih =>
    have hf : flat (y :: r) = y.cells ++ flat r := by simp [flat]
    have hl : y.cells.length = 5 := rfl
    rw [hf]
    cases j with
    | zero =>
      simp at h; subst h
      exact ⟨rfl, rfl, rfl, rfl, rfl⟩
    | succ j =>
      simp at h
      obtain ⟨h0, h1, h2, h3, h4⟩ := ih h
      refine ⟨?_, ?_, ?_, ?_, ?_⟩
      · rw [List.getElem?_append_right (by omega), hl, show (j + 1) * 5 - 5 = j * 5 from by omega]; exact h0
      · rw [List.getElem?_append_right (by omega), hl, show (j + 1) * 5 + 1 - 5 = j * 5 + 1 from by omega]; exact h1
      · rw [List.getElem?_append_right (by omega), hl, show (j + 1) * 5 + 2 - 5 = j * 5 + 2 from by omega]; exact h2
      · rw [List.getElem?_append_right (by omega), hl, show (j + 1) * 5 + 3 - 5 = j * 5 + 3 from by omega]; exact h3
      · rw [List.getElem?_append_right (by omega), hl, show (j + 1) * 5 + 4 - 5 = j * 5 + 4 from by omega]; exact h4
theorem flat_one (xs : List Sm) : ∀ u ∈ flat xs, u.oneCell' = true := by
  intro u hu
  simp only [flat, List.mem_flatMap] at hu
  obtain ⟨x, _, hx⟩ := hu
  simp [Sm.cells] at hx
  rcases hx with rfl | rfl | rfl | rfl | rfl <;> rfl
/-- Which statement, and which of its cells, a place of the flat list is. -/
theorem flat_inv {xs : List Sm} {i : Nat} {u : Value} (h : (flat xs)[i]? = some u) : ∃ x, xs[i / 5]? = some x ∧ x.cells[i % 5]? = some u := by
  induction xs generalizing i with
  | nil => simp [flat] at h
  | cons y r ih =>
    have hf : flat (y :: r) = y.cells ++ flat r := by simp [flat]
    have hl : y.cells.length = 5 := rfl
    rw [hf] at h
    by_cases h5 : i < 5
    · rw [List.getElem?_append_left (by omega)] at h
      exact ⟨y, by rw [show i / 5 = 0 from by omega]; rfl, by rw [show i % 5 = i from by omega]; exact h⟩
    · rw [List.getElem?_append_right (by omega), hl] at h
      obtain ⟨x, h1, h2⟩ := ih h
      refine ⟨x, ?_, ?_⟩
      · rw [show i / 5 = (i - 5) / 5 + 1 from by omega]; simpa using h1
      · rw [show i % 5 = (i - 5) % 5 from by omega]; exact h2
/-- The cells of a thread's statements from one on, as an append reads them. -/
theorem Row.news {w : World} {B : Nat} {A : Option Addr} {xs : List Sm} (h : Row w B A xs) (t k : Nat) (ys : List Sm) (hys : ys = (xs.drop t).take k) {ao : Option Addr} (hao : 0 < ys.length → ao = A.map (·.add (t * 5))) :
    ∀ ad, ao = some ad → ∀ j u, (flat ys)[j]? = some u → w.cell? (ad.add j) = some u := by
  intro ad had j u hu
  obtain ⟨x, h1, h2⟩ := flat_inv hu
  have hpos : 0 < ys.length := by have := (List.getElem?_eq_some_iff.1 h1).1; omega
  have hxs : xs[t + j / 5]? = some x := by
    rw [hys, List.getElem?_take] at h1
    split at h1
    · rw [List.getElem?_drop] at h1; exact h1
    · cases h1
  obtain ⟨b, off, rfl, _, hx⟩ := h (by have := (List.getElem?_eq_some_iff.1 hxs).1; omega)
  have hs := hx _ _ hxs
  have e := hao hpos
  rw [had] at e
  simp only [Option.map_some, Option.some.injEq] at e
  subst e
  rw [addr_add', addr_add']
  obtain ⟨g0, g1, g2, g3, g4⟩ := hs
  have hj : j = j / 5 * 5 + j % 5 := by omega
  have hlt : j % 5 < 5 := Nat.mod_lt _ (by omega)
  generalize hq : j / 5 = q at *
  generalize hr : j % 5 = r at *
  subst hj
  have ea : off + t * 5 + (q * 5 + r) = off + (t + q) * 5 + r := by omega
  rw [ea]
  match r, hlt, h2 with
  | 0, _, h2 => simp [Sm.cells] at h2; subst h2; exact g0
  | 1, _, h2 => simp [Sm.cells] at h2; subst h2; exact g1
  | 2, _, h2 => simp [Sm.cells] at h2; subst h2; exact g2
  | 3, _, h2 => simp [Sm.cells] at h2; subst h2; exact g3
  | 4, _, h2 => simp [Sm.cells] at h2; subst h2; exact g4
/-- What is owned, as a thread of the call's own. -/
theorem own_row {w : World} {base g n cap : Nat} {zs : List Sm} (h : w.ownsRow base 27 5 (.slice (some ⟨g, 0, none⟩) n cap) n (flat zs)) (hg : base ≤ g) : OwnRow w g (g + 1) (some ⟨g, 0, none⟩) zs := fun _ => by
  rcases h.2 with ⟨h0, _⟩ | ⟨g', cap', cur, hv, _, hh, _, _, _, htake⟩
  · simp at h0
  · simp only [Value.slice.injEq, Option.some.injEq, Addr.mk.injEq, and_true, true_and] at hv
    obtain ⟨rfl, rfl⟩ := hv
    refine ⟨g, cur, rfl, Nat.le_refl _, by omega, hh, fun j x hj => ?_⟩
    have key : ∀ (i : Nat) (u : Value), (flat zs)[i]? = some u → cur[i]? = some u := by
      intro i u hi
      rw [← htake, List.getElem?_take] at hi
      split at hi
      · simpa using hi
      · cases hi
    obtain ⟨h0, h1, h2, h3, h4⟩ := flat_at hj
    exact ⟨key _ _ h0, key _ _ h1, key _ _ h2, key _ _ h3, key _ _ h4⟩

def splice (xs : List Sm) (f t : Nat) (ys : List Sm) : List Sm := xs.take f ++ (ys ++ xs.drop t)
theorem splice_length {xs ys : List Sm} {f t : Nat} (h1 : f ≤ t) (h2 : t ≤ xs.length) : (splice xs f t ys).length = xs.length - (t - f) + ys.length := by
  simp [splice]; omega

/-- 'make' of no elements, with room. -/
theorem make_room {t e : TypeId} {i : TypeInfo} {z : Value} (ht : Try.prog.underlying t = some (.slice e)) (hi : Try.prog.info? e = some i) (hz : i.zero = some z) (n : Nat) (C : Int) (hC : C = (n : Int)) (hb : i.bytes * n ≤ 281474976710656) (h63 : n ≤ 9223372036854775807) (w : World) :
    (Instr.makeSlice t (.int .i64 0) (.int .i64 C)).run Try.prog w = .ok (.slice (some ⟨w.heap.size, 0, none⟩) 0 n) (w.alloc (.cells (madeCells z.cells (n * i.size)) e)) := by
  subst hC
  have hb' : (i.bytes : Int) * (n : Int) ≤ 281474976710656 := by
    have : ((i.bytes * n : Nat) : Int) ≤ 281474976710656 := by omega
    rwa [Int.natCast_mul] at this
  have hr := run_make (P := Try.prog) w t e i z ht hi hz .i64 .i64 0 (n : Int) (by omega) (by omega) hb' (by omega)
  simpa only [Int.toNat_natCast, Int.toNat_zero] using hr

/-- What spliced comes to. -/
def Spliced (w : World) (zs : List Sm) (e : Ending) (w' : World) : Prop :=
  ∃ c, e = .returned (.slice (some ⟨w.heap.size, 0, none⟩) zs.length c) ∧ zs.length ≤ c ∧ c ≤ maxLen ∧ Below w.heap.size w w' ∧ w.heap.size < w'.heap.size ∧ OwnRow w' w.heap.size (w.heap.size + 1) (some ⟨w.heap.size, 0, none⟩) zs

set_option maxRecDepth 100000 in
set_option maxHeartbeats 1600000 in
theorem spliced_any (A A' : Option Addr) (xs ys : List Sm) (c c' : Nat) (f t : Int) (w : World) (B : Nat) (h : Row w B A xs) (h' : Row w B A' ys) (hB : B ≤ w.heap.size)
    (hc : xs.length ≤ c) (hm : c ≤ maxLen) (hl : xs.length ≤ 1048576) (hc' : ys.length ≤ c') (hl' : ys.length ≤ 1048576) (hA : A = none → c = 0) (hA' : A' = none → c' = 0) (h0 : 0 ≤ f) (h1 : f ≤ t) (h2 : t ≤ xs.length) :
    Calls Try.prog 112 #[.slice A xs.length c, .int .i64 f, .int .i64 t, .slice A' ys.length c'] w (Spliced w (splice xs f.toNat t.toNat ys)) := by
  unfold maxLen at hm
  obtain ⟨i0, hi, hz0, hz1, hz2⟩ := info_parts Try.info27
  have hmk := make_room Try.underlying37 hi hz0 (xs.length - (t.toNat - f.toNat) + ys.length) ((xs.length : Int) - (t - f) + (ys.length : Int)) (by omega) (by rw [hz2]; omega) (by omega)
  rw [hz1] at hmk
  obtain ⟨N, hN⟩ : ∃ N, N = xs.length - (t.toNat - f.toNat) + ys.length := ⟨_, rfl⟩
  rw [← hN] at hmk
  obtain ⟨W1, hW1⟩ : ∃ W1, W1 = w.alloc (.cells (madeCells (Value.agg #[.int .i64 0, .int .i64 0, .int .i64 0, .int .i64 0, .bool false]).cells (N * 5)) 27) := ⟨_, rfl⟩
  have own0 : W1.ownsRow w.heap.size 27 5 (.slice (some ⟨w.heap.size, 0, none⟩) 0 N) 0 [] := by
    rw [hW1]; exact World.ownsRow_made w _ N (Nat.le_refl _) (by unfold maxLen; omega) (by rw [size_madeCells])
  have b1 : Below w.heap.size w W1 := by rw [hW1]; go_grown
  have s1 : w.heap.size < W1.heap.size := by rw [hW1]; simp
  have hmk1 : (Instr.makeSlice 37 (.int .i64 0) (.int .i64 ((xs.length : Int) - (t - f) + (ys.length : Int)))).run Try.prog w = .ok (.slice (some ⟨w.heap.size, 0, none⟩) 0 N) W1 := by rw [hW1]; exact hmk w
  clear hmk
  have n1 := Lib.hid (show (flat (xs.take f.toNat)).length = f.toNat * 5 by rw [flat_length, List.length_take]; omega)
  have n2 := Lib.hid (flat_length ys)
  have n3 := Lib.hid (show (flat (xs.drop t.toNat)).length = (xs.length - t.toNat) * 5 by rw [flat_length, List.length_drop])
  have d1 := Lib.hid (show A = none → f.toNat = 0 ∧ c = 0 from fun e => by have := hA e; omega)
  have d2 := Lib.hid (show A' = none → ys.length = 0 ∧ c' = 0 from fun e => by have := hA' e; omega)
  have d3 := Lib.hid (show (if c = t.toNat then A else A.map (·.add (t.toNat * 5))) = none → xs.length - t.toNat = 0 ∧ c - t.toNat = 0 from fun e => by
    split at e
    · omega
    · have e2 : A = none := by cases A <;> simp_all
      have := hA e2; omega)
  have g1 := Lib.hid ((h.below b1 hB).news 0 f.toNat (xs.take f.toNat) (by simp) (ao := A) (fun _ => by cases A <;> simp [Addr.add]))
  have g3 := Lib.hid (show ∀ V, Row V B A xs → ∀ ad, (if c = t.toNat then A else A.map (·.add (t.toNat * 5))) = some ad → ∀ j u, (flat (xs.drop t.toNat))[j]? = some u → V.cell? (ad.add j) = some u from fun V hV =>
    hV.news t.toNat (xs.length - t.toNat) (xs.drop t.toNat) (by rw [List.take_of_length_le (by rw [List.length_drop]; omega)]) (fun hp => by rw [List.length_drop] at hp; rw [if_neg (by omega)]))
  have H := Lib.hid h
  have H' := Lib.hid h'
  have Own0 := Lib.hid own0
  have Bl1 := Lib.hid b1
  have S1 := Lib.hid s1
  have HN := Lib.hid hN
  have HW1 := Lib.hid hW1
  clear hA hA' h h' own0 b1 s1 hN hW1
  go_enter Try.func112, Try.ntmps112
  go_wp2_with (first
    | (at_builtin; refine wpList_append_fits_any _ rfl (.tmp 20) (.tmp 23) 37 rfl w.heap.size 27 i0 5 Try.underlying37 hi hz1 w.heap.size 0 N [] rfl Own0.out A f.toNat c (flat (xs.take f.toNat)) rfl n1.out d1.out g1.out (flat_one _) (by have := HN.out; omega) ?_; intro w1 own1 grow1; simp only [Nat.zero_add, List.nil_append] at own1 ⊢; have Own1 := Lib.hid own1; have Gr1 := Lib.hid grow1; clear own1 grow1)
    | (at_builtin; refine wpList_append_fits_any _ rfl (.tmp 25) (.tmp 26) 37 rfl w.heap.size 27 i0 5 Try.underlying37 hi hz1 w.heap.size f.toNat N _ rfl Own1.out A' ys.length c' (flat ys) rfl n2.out d2.out ((H'.out.below (Bl1.out.grown Gr1.out (Nat.le_of_lt S1.out) (by intro g hg; cases hg; exact Nat.le_refl _)) hB).news 0 ys.length ys (by simp) (fun _ => by cases A' <;> simp [Addr.add])) (flat_one _) (by have := HN.out; omega) ?_; intro w2 own2 grow2; have Own2 := Lib.hid own2; have Gr2 := Lib.hid grow2; have Bl2 := Lib.hid (Bl1.out.grown Gr1.out (Nat.le_of_lt S1.out) (by intro g hg; cases hg; exact Nat.le_refl _)); have S2 := Lib.hid (Nat.lt_of_lt_of_le S1.out Gr1.out.size); clear own2 grow2)
    | (at_builtin; refine wpList_append_fits_any _ rfl (.tmp 28) (.tmp 31) 37 rfl w.heap.size 27 i0 5 Try.underlying37 hi hz1 w.heap.size (f.toNat + ys.length) N _ rfl Own2.out _ (xs.length - t.toNat) (c - t.toNat) (flat (xs.drop t.toNat)) rfl n3.out d3.out (g3.out _ (H.out.below (Bl2.out.grown Gr2.out (Nat.le_of_lt S2.out) (by intro g hg; cases hg; exact Nat.le_refl _)) hB)) (flat_one _) (by have := HN.out; omega) ?_; intro w3 own3 grow3; have Own3 := Lib.hid own3; have Gr3 := Lib.hid grow3; have Bl3 := Lib.hid (Bl2.out.grown Gr2.out (Nat.le_of_lt S2.out) (by intro g hg; cases hg; exact Nat.le_refl _)); have S3 := Lib.hid (Nat.lt_of_lt_of_le S2.out Gr2.out.size); clear own3 grow3))
  all_goals
    go_ret
    have hz : (splice xs f.toNat t.toNat ys).length = f.toNat + ys.length + (xs.length - t.toNat) := by simp [splice]; omega
    have hfl : flat (splice xs f.toNat t.toNat ys) = flat (xs.take f.toNat) ++ flat ys ++ flat (xs.drop t.toNat) := by rw [splice, flat_append, flat_append, List.append_assoc]
    refine ⟨N, by rw [hz]; rfl, by have := HN.out; omega, by have := HN.out; unfold maxLen; omega, Bl3.out.grown Gr3.out (Nat.le_of_lt S3.out) (by intro g hg; cases hg; exact Nat.le_refl _), Nat.lt_of_lt_of_le S3.out Gr3.out.size, ?_⟩
    refine own_row (n := f.toNat + ys.length + (xs.length - t.toNat)) (cap := N) (base := w.heap.size) ?_ (Nat.le_refl _)
    rw [hfl]
    exact Own3.out

end Go.Proofs.Yteinbbhhjalbeaa
