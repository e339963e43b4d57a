/-
  What the program's contested and anyOf come to, and its Guarded.
-/
import Derived.Test.YtiljakbjbiinkaaSGua
import Derived.Deep.RegionHeld3
namespace Go.Proofs.Ytiljakbjbiinkaa
open Go.RowKit Pl
set_option maxHeartbeats 2000000
set_option maxRecDepth 100000
set_option linter.unusedVariables false

def wrZ (x : Sm) : Bool := writesB x.k x.a x.b x.c x.s
def thT (p : Int) (xs : List Sm) : Bool := xs.any fun x => plZ x == p
def thW (p : Int) (xs : List Sm) : Bool := xs.any fun x => plZ x == p && wrZ x
def cnZ (x y : Sm) : Bool := conB x.k x.a x.b x.c x.s y.k y.a y.b y.c y.s
/-- Whether statements of two threads conflict at a place, by pairs. -/
def paB (p : Int) (xs ys : List Sm) : Bool := xs.any fun x => ys.any fun y => plZ x == p && cnZ x y
def shB (L : Pg) (p : Int) : Bool := (List.range L.length).any fun i => (List.range L.length).any fun k => decide (i < k) && paB p (L.getD i []) (L.getD k [])
/-- The same by counting threads. -/
def cntI (g : List Sm → Bool) (L : Pg) : Int := (L.map fun xs => bit (g xs)).foldl (· + ·) 0
def cstB (L : Pg) (p : Int) : Bool := decide (1 < cntI (thT p) L) && decide (0 < cntI (thW p) L)
theorem thW_T {p : Int} {xs : List Sm} (h : thW p xs = true) : thT p xs = true := by
  unfold thW at h
  unfold thT
  rw [List.any_eq_true] at h ⊢
  obtain ⟨x, h1, h2⟩ := h
  exact ⟨x, h1, (Bool.and_eq_true_iff.1 h2).1⟩
theorem paB_eq {p : Int} (hp : 0 ≤ p) (xs ys : List Sm) : paB p xs ys = (thT p xs && thT p ys && (thW p xs || thW p ys)) := by
  rw [Bool.eq_iff_iff]
  unfold paB thT thW cnZ conB wrZ plZ
  simp only [List.any_eq_true, Bool.and_eq_true, Bool.or_eq_true, beq_iff_eq, decide_eq_true_eq]
  constructor
  · rintro ⟨x, hx, y, hy, e, ⟨-, e2⟩, hw⟩
    refine ⟨⟨⟨x, hx, e⟩, y, hy, e2 ▸ e⟩, ?_⟩
    rcases hw with hw | hw
    · exact Or.inl ⟨x, hx, e, hw⟩
    · exact Or.inr ⟨y, hy, e2 ▸ e, hw⟩
  · rintro ⟨⟨⟨x, hx, e⟩, y, hy, e2⟩, ⟨z, hz, e3, hw⟩ | ⟨z, hz, e3, hw⟩⟩
    · exact ⟨z, hz, y, hy, e3, ⟨by omega, by rw [e3, e2]⟩, Or.inl hw⟩
    · exact ⟨x, hx, z, hz, e, ⟨by omega, by rw [e, e3]⟩, Or.inr hw⟩
theorem sh_eq {L : Pg} (hl : L.length ≤ 3) {p : Int} (hp : 0 ≤ p) : shB L p = cstB L p := by
  unfold shB cstB cntI
  match L, hl with
  | [], _ => rfl
  | [a], _ =>
    simp [List.range_succ, bit]
    intro h; split at h <;> omega
  | [a, b], _ =>
    have ha := @thW_T p a
    have hb := @thW_T p b
    simp only [List.length_cons, List.length_nil, List.range_succ, List.range_zero, List.nil_append, List.cons_append, List.any_cons, List.any_nil, List.map_cons, List.map_nil, List.foldl_cons, List.foldl_nil, List.getD_cons_zero, List.getD_cons_succ, paB_eq hp]
    generalize thT p a = t0 at *
    generalize thT p b = t1 at *
    generalize thW p a = w0 at *
    generalize thW p b = w1 at *
    revert t0 t1 w0 w1
    decide
  | [a, b, c], _ =>
    have ha := @thW_T p a
    have hb := @thW_T p b
    have hc := @thW_T p c
    simp only [List.length_cons, List.length_nil, List.range_succ, List.range_zero, List.nil_append, List.cons_append, List.any_cons, List.any_nil, List.map_cons, List.map_nil, List.foldl_cons, List.foldl_nil, List.getD_cons_zero, List.getD_cons_succ, paB_eq hp]
    generalize thT p a = t0 at *
    generalize thT p b = t1 at *
    generalize thT p c = t2 at *
    generalize thW p a = w0 at *
    generalize thW p b = w1 at *
    generalize thW p c = w2 at *
    revert t0 t1 t2 w0 w1 w2
    decide
theorem cnt_next {g : List Sm → Bool} {L : Pg} {k : Nat} {xs : List Sm} (h : L[k]? = some xs) : cntI g (L.take (k + 1)) = cntI g (L.take k) + bit (g xs) := by
  unfold cntI
  rw [List.take_add_one, h]
  simp
theorem cnt_lim (g : List Sm → Bool) : ∀ L : Pg, 0 ≤ cntI g L ∧ cntI g L ≤ L.length := by
  intro L
  unfold cntI
  have key : ∀ (l : List Int) (z : Int), (∀ x ∈ l, 0 ≤ x ∧ x ≤ 1) → z ≤ l.foldl (· + ·) z ∧ l.foldl (· + ·) z ≤ z + l.length := by
    intro l
    induction l with
    | nil => intro z _; simp
    | cons x r ih =>
      intro z hx
      have h1 := ih (z + x) fun y hy => hx y (List.mem_cons_of_mem _ hy)
      have h2 := hx x (List.mem_cons_self ..)
      simp only [List.foldl_cons, List.length_cons]
      omega
  have := key (L.map fun xs => bit (g xs)) 0 fun x hx => by
    obtain ⟨y, -, rfl⟩ := List.mem_map.1 hx
    unfold bit; split <;> omega
  simp at this
  omega
/-- The bits of a statement's word that tell of places. -/
theorem q_bits : ∀ (q : Fin 11) (p : Fin 3), (qN q).testBit (3 + p.val) = (qP q == ((p.val : Nat) : Int)) ∧ (qN q).testBit (13 + p.val) = (qP q == ((p.val : Nat) : Int) && qW q) ∧ qN q < 1048576 := by decide +kernel
/-- A thread's word. -/
def ThW (A : Nat) (xs : List Sm) : Prop := A < 1048576 ∧ ∀ p : Nat, p < 3 → A.testBit (3 + p) = thT (p : Int) xs ∧ A.testBit (13 + p) = thW (p : Int) xs
theorem thw_nil : ThW 0 [] := ⟨by omega, fun p _ => by simp [thT, thW]⟩
theorem thw_next {A : Nat} {xs : List Sm} {j : Nat} {x : Sm} {q : Fin 11} (h : ThW A (xs.take j)) (hx : xs[j]? = some x) (h1 : placeZ x.k x.a x.b x.c x.s = qP q) (h2 : writesB x.k x.a x.b x.c x.s = qW q) : ThW (A ||| qN q) (xs.take (j + 1)) := by
  obtain ⟨h0, hb⟩ := h
  refine ⟨Nat.or_lt_two_pow (n := 20) h0 (q_bits q 0).2.2, fun p hp => ?_⟩
  obtain ⟨a1, a2, -⟩ := q_bits q ⟨p, hp⟩
  obtain ⟨b1, b2⟩ := hb p hp
  have a1 : (qN q).testBit (3 + p) = (qP q == ((p : Nat) : Int)) := a1
  have a2 : (qN q).testBit (13 + p) = (qP q == ((p : Nat) : Int) && qW q) := a2
  unfold thT at b1 ⊢
  unfold thW at b2 ⊢
  rw [Nat.testBit_or, Nat.testBit_or, a1, a2, b1, b2, List.take_add_one, hx]
  simp [plZ, wrZ, h1, h2]
/-- Whether each place that two threads contend for has a lock. -/
def gdB (L : Pg) : Bool := progB L && (List.range 3).all fun (p : Nat) => !(cstB L (p : Int) && !(guM L p 0 || guM L p 1))
end Go.Proofs.Ytiljakbjbiinkaa
namespace Go.Proofs.Ytiljakbjbiinkaa
open Go.RowKit Pl
set_option maxHeartbeats 4000000
set_option maxRecDepth 100000
set_option linter.unusedVariables false

theorem tword_any (A0 : Option Addr) (xs : List Sm) (ci : Nat) (w : World) (B : Nat) (hR : Row w B A0 xs) (hB : B ≤ w.heap.size) (hlc : xs.length ≤ ci) (hm2 : ci ≤ maxLen) :
    Calls Try.prog 126 #[.slice A0 xs.length ci] w fun e w' => ∃ A : Nat, e = .returned (.int .u64 A) ∧ ThW A xs ∧ Below w.heap.size w w' := by
  have RW := Lib.hid hR
  clear hR
  have hm3 : xs.length ≤ 9223372036854775807 := by unfold maxLen at hm2; omega
  obtain ⟨wo, rfl⟩ : ∃ wo : World, wo = w := ⟨_, rfl⟩
  go_enter Try.func126, Try.ntmps126
  go_wp2
  go_loopw [3, 8] (fun av jv v => ∃ (j A : Nat), j ≤ xs.length ∧ jv = .int .i64 j ∧ av = .int .u64 A ∧ ThW A (xs.take j) ∧ Below wo.heap.size wo v) (fun _ jv _ => xs.length - (intOf jv).toNat)
  case atStart => exact ⟨0, 0, Nat.zero_le _, rfl, rfl, by rw [List.take_zero]; exact thw_nil, Below.refl _ _⟩
  case round =>
    obtain ⟨j, A, hj, rfl, rfl, hth, hb3⟩ := hrel
    have hz3 := hb3.size
    have H3 := Lib.hid hb3
    have hA := hth.1
    have TH := Lib.hid hth
    by_cases hjl : j < xs.length
    · have hj1 : (j : Int) < (xs.length : Int) := by omega
      obtain ⟨b5, off5, st, hA5, hb5, hst, -, s0, s1, s2, s3, s4⟩ := RW.out.at_ hjl
      have hb5w : b5 < wo.heap.size := by omega
      have t0 := (hb3.cell (p := ⟨b5, off5 + j * 5, none⟩) hb5w).trans s0
      have t1 := (hb3.cell (p := ⟨b5, off5 + j * 5 + 1, none⟩) hb5w).trans s1
      have t2 := (hb3.cell (p := ⟨b5, off5 + j * 5 + 2, none⟩) hb5w).trans s2
      have t3 := (hb3.cell (p := ⟨b5, off5 + j * 5 + 3, none⟩) hb5w).trans s3
      have t4 := (hb3.cell (p := ⟨b5, off5 + j * 5 + 4, none⟩) hb5w).trans s4
      obtain ⟨q, hq⟩ := way st.k st.a st.b st.c st.s
      have HN := Lib.hid (thw_next hth hst hq.1 hq.2.1)
      have hqb := (q_bits q 0).2.2
      have hsw := Lib.hid (fun (V : World) => sw_any hq V)
      have ho : bits .or .u64 (A : Int) ((qN q : Nat) : Int) = ((A ||| qN q : Nat) : Int) := or_u64 (by omega) (by omega)
      subst hA5
      clear hth hst hq hb3 s0 s1 s2 s3 s4
      generalize qN q = Q at HN hqb hsw ho
      go_wp2_with fail
      refine (hsw.out _).mono ?_
      rintro e v2 ⟨rfl, hb6⟩
      have H6 := Lib.hid (below_on (H3.out.alloc hz3 _) hb6)
      clear hb6 t0 t1 t2 t3 t4
      go_wp2
      go_roundw
      case rel => exact ⟨j + 1, A ||| Q, by omega, by go_num, rfl, HN.out, H6.out⟩
      case measure => simp [intOf]; omega
    · have hje : j = xs.length := by omega
      have hj1 : ¬ (j : Int) < (xs.length : Int) := by omega
      subst hje
      rw [List.take_length] at hth
      have HT := Lib.hid hth
      clear hth hb3
      go_wp2
      go_ret
      exact ⟨A, rfl, HT.out, H3.out⟩

theorem contested_any (h : PgH) (L : Pg) (p : Nat) (w : World) (B : Nat) (hP : PgR w B h L) (hB : B ≤ w.heap.size) (hl : L.length ≤ 3) (hp : p < 3) (r : Bool) (hr : Hid (cstB L (p : Int) = r)) :
    Calls Try.prog 59 #[PgV h L, .int .i64 p] w fun e w' => e = .returned (.bool r) ∧ Below w.heap.size w w' := by
  obtain ⟨W, hW⟩ : ∃ W, W = w.alloc (.cells #[.slice h.A L.length h.c] 30) := ⟨_, rfl⟩
  have bW : Below w.heap.size w W := by rw [hW]; go_grown
  have KW := Lib.hid (show Bk W w.heap.size 30 #[.slice h.A L.length h.c] by rw [hW]; exact Bk.new _ _ _)
  have BW := Lib.hid bW
  have P0 := Lib.hid (hP.below bW hB)
  have HW := Lib.hid hW
  have hz := bW.size
  have c0 : W.cell? ⟨w.heap.size, 0, none⟩ = some (.slice h.A L.length h.c) := KW.out.cell 0
  have l0 := KW.out.lt
  clear hW bW hP
  go_enter Try.func59, Try.ntmps59
  go_wp2_with fail
  rw [← HW.out]
  go_wp2
  go_loopw [5, 6, 13] (fun tv uv iv wr => ∃ (i : Nat) (x y : Int), i ≤ L.length ∧ iv = .int .i64 i ∧ tv = .int .i64 x ∧ uv = .int .i64 y ∧ cntI (thT (p : Int)) (L.take i) = x ∧ cntI (thW (p : Int)) (L.take i) = y ∧ Below W.heap.size W wr) (fun _ _ iv _ => L.length - (intOf iv).toNat)
  case atStart => exact ⟨0, 0, 0, Nat.zero_le _, rfl, rfl, rfl, rfl, rfl, Below.refl _ _⟩
  case round =>
    obtain ⟨i, x, y, hil, rfl, rfl, rfl, hx, hy, hbel⟩ := hrel
    have hzr := hbel.size
    have HB := Lib.hid hbel
    have lx := cnt_lim (thT (p : Int)) (L.take i)
    have ly := cnt_lim (thW (p : Int)) (L.take i)
    rw [List.length_take] at lx ly
    rw [hx] at lx
    rw [hy] at ly
    by_cases hlt : i < L.length
    · have hi1 : (i : Int) < (L.length : Int) := by omega
      obtain ⟨b, off, xs, Ai, ci, hA, hb, hxs, hcr, hlc, hmi, hrow⟩ := pg_at P0.out hlt
      have hbW : b < W.heap.size := by omega
      have hcr2 : wr.cell? ⟨b, off + i, none⟩ = some (.slice Ai xs.length ci) := (hbel.cell (p := ⟨b, off + i, none⟩) hbW).trans hcr
      have hbw : b < wr.heap.size := by omega
      have hm2 : ci ≤ 9223372036854775807 := by unfold maxLen at hmi; omega
      have RW := Lib.hid hrow
      have HX := Lib.hid (show cntI (thT (p : Int)) (L.take (i + 1)) = x + bit (thT (p : Int) xs) from by rw [← hx]; exact cnt_next hxs)
      have HY := Lib.hid (show cntI (thW (p : Int)) (L.take (i + 1)) = y + bit (thW (p : Int) xs) from by rw [← hy]; exact cnt_next hxs)
      have bT : 0 ≤ bit (thT (p : Int) xs) ∧ bit (thT (p : Int) xs) ≤ 1 := by unfold bit; split <;> omega
      have bU : 0 ≤ bit (thW (p : Int) xs) ∧ bit (thW (p : Int) xs) ≤ 1 := by unfold bit; split <;> omega
      clear hx hy hxs hcr hrow hbel hr
      have HC := Lib.hid (fun (V : World) (hV : Below wr.heap.size wr V) => tword_any Ai xs ci V B ((RW.out.below HB.out (by omega)).below hV (by omega)) (by have := hV.size; omega) hlc hmi)
      rw [hA]
      go_wp2_with fail
      refine (HC.out _ (by go_grown)).mono ?_
      rintro e v ⟨A, rfl, hth, hb3⟩
      have H3 := Lib.hid (below_on (Below.refl _ _) hb3)
      have hA0 := hth.1
      obtain ⟨g1, g2⟩ := hth.2 p hp
      have hb1 := Lib.hid (fun (V : World) => hasbit_any A (3 + p) V (by omega) (by omega) _ (Lib.hid g1))
      have hb2 := Lib.hid (fun (V : World) => hasbit_any A (13 + p) V (by omega) (by omega) _ (Lib.hid g2))
      rw [show ((3 + p : Nat) : Int) = 3 + (p : Int) by omega] at hb1
      rw [show ((13 + p : Nat) : Int) = 13 + (p : Int) by omega] at hb2
      clear hth g1 g2 hb3
      generalize thT (p : Int) xs = T1 at hb1 HX bT
      generalize thW (p : Int) xs = T2 at hb2 HY bU
      go_wp2_with fail
      refine (hb1.out _).mono ?_
      rintro e v2 ⟨rfl, rfl⟩
      go_wp2_with (go_at_call 127; refine (figure_any _ _).mono ?_; rintro e w' ⟨rfl, rfl⟩)
      go_wp2_with fail
      refine (hb2.out _).mono ?_
      rintro e v3 ⟨rfl, rfl⟩
      go_wp2_with (go_at_call 127; refine (figure_any _ _).mono ?_; rintro e w' ⟨rfl, rfl⟩)
      go_roundw
      case rel => exact ⟨i + 1, x + bit T1, y + bit T2, by omega, by go_num, by go_num, by go_num, HX.out, HY.out, HB.out.trans (H3.out.mono (by omega))⟩
      case measure => simp [intOf]; omega
    · have hie : i = L.length := by omega
      have hi1 : ¬ (i : Int) < (L.length : Int) := by omega
      subst hie
      rw [List.take_length] at hx hy
      have hfin := hr.out
      unfold cstB at hfin
      rw [hx, hy] at hfin
      have HF := Lib.hid hfin
      clear hx hy hfin hr hbel
      rcases Decidable.em (1 < x) with h1 | h1 <;> rcases Decidable.em (0 < y) with h2 | h2
      all_goals
        go_wp2
        go_ret
        refine ⟨?_, BW.out.trans (HB.out.mono (by omega))⟩
        rw [← HF.out]
        simp [h1, h2]
/-- The cells of a table of places and locks. -/
theorem gu_cells {w : World} {lo hi : Nat} {k : BssH} {M : Nat → Nat → Bool} (h : BssO w lo hi k (matR 3 2 M)) :
    ∃ (g : Nat) (D C : Nat → Nat), k.A = some ⟨g, 0, none⟩ ∧ g < hi ∧ ∀ p, p < 3 → w.cell? ⟨g, p, none⟩ = some (.slice (some ⟨D p, 0, none⟩) 2 (C p)) ∧ D p < hi ∧ ∀ l, l < 2 → w.cell? ⟨D p, l, none⟩ = some (.bool (M p l)) := by
  obtain ⟨g, cs, Dr, Cr, hA, hg0, hg1, hbk, hrw, -⟩ := h.o0 (by simp [matR])
  have row : ∀ p, ∃ d : Nat, p < 3 → w.cell? ⟨g, p, none⟩ = some (.slice (some ⟨d, 0, none⟩) 2 (Cr p)) ∧ d < hi ∧ ∀ l, l < 2 → w.cell? ⟨d, l, none⟩ = some (.bool (M p l)) := fun p => by
    by_cases hp : p < 3
    · have hx : (matR 3 2 M)[p]? = some ((List.range 2).map (M p)) := by simp [matR, hp]
      obtain ⟨hcs, hov⟩ := hrw p _ (vsBss_at hx)
      obtain ⟨d, cd, hD, hd0, hd1, hbd, hxd⟩ := hov (by simp)
      refine ⟨d, fun _ => ⟨?_, hd1, fun l hl => ?_⟩⟩
      · rw [← hD]
        have := (hbk.cell p).trans hcs
        simpa using this
      · refine (hbd.cell l).trans (hxd l _ (bools_at ?_))
        simp [hl]
    · exact ⟨0, fun e => absurd e hp⟩
  exact ⟨g, fun p => (row p).choose, Cr, hA, hg1, fun p hp => (row p).choose_spec hp⟩
theorem anyof_any (d c : Nat) (m0 m1 : Bool) (w : World) (hd : d < w.heap.size) (h0 : w.cell? ⟨d, 0, none⟩ = some (.bool m0)) (h1 : w.cell? ⟨d, 1, none⟩ = some (.bool m1)) :
    Calls Try.prog 60 #[.slice (some ⟨d, 0, none⟩) 2 c] w fun e w' => e = .returned (.bool (m0 || m1)) ∧ w = w' := by
  go_enter Try.func60, Try.ntmps60
  go_wp2
  go_loopw [7] (fun iv wr => ∃ i : Nat, i ≤ 2 ∧ iv = .int .i64 i ∧ (1 ≤ i → m0 = false) ∧ (2 ≤ i → m1 = false) ∧ wr = w) (fun iv _ => 2 - (intOf iv).toNat)
  case atStart => exact ⟨0, by omega, rfl, by omega, by omega, rfl⟩
  case round =>
    obtain ⟨i, hi, rfl, a0, a1, rfl⟩ := hrel
    match i, hi with
    | 0, _ =>
      cases m0
      · go_wp2
        go_roundw
        case rel => exact ⟨1, by omega, by go_num, by simp, by omega, by simp⟩
        case measure => simp [intOf]
      · go_wp2
        go_ret
        exact ⟨rfl, rfl⟩
    | 1, _ =>
      have e0 := a0 (by omega)
      subst e0
      cases m1
      · go_wp2
        go_roundw
        case rel => exact ⟨2, by omega, by go_num, by simp, by simp, by simp⟩
        case measure => simp [intOf]
      · go_wp2
        go_ret
        exact ⟨rfl, rfl⟩
    | 2, _ =>
      go_wp2
      go_ret
      rw [a0 (by omega), a1 (by omega)]
      exact ⟨rfl, rfl⟩
theorem igud_any (h : PgH) (L : Pg) (w : World) (B : Nat) (hP : PgR w B h L) (hB : B ≤ w.heap.size) (SP : PgS L) (r : Bool) (hr : Hid (gdB L = r)) :
    Calls Try.prog 22 #[PgV h L] w fun e w' => e = .returned (.bool r) ∧ Below w.heap.size w w' := by
  obtain ⟨W, hW⟩ : ∃ W, W = w.alloc (.cells #[.slice h.A L.length h.c] 30) := ⟨_, rfl⟩
  have bW : Below w.heap.size w W := by rw [hW]; go_grown
  have KW := Lib.hid (show Bk W w.heap.size 30 #[.slice h.A L.length h.c] by rw [hW]; exact Bk.new _ _ _)
  have BW := Lib.hid bW
  have P0 := Lib.hid (hP.below bW hB)
  have HW := Lib.hid hW
  have hz := bW.size
  have c0 : W.cell? ⟨w.heap.size, 0, none⟩ = some (.slice h.A L.length h.c) := KW.out.cell 0
  have l0 := KW.out.lt
  clear hW bW hP
  have G := igua_any h L W B P0.out (by omega) SP
  have hfin := hr.out
  unfold gdB at hfin
  unfold guE at G
  rcases Bool.eq_false_or_eq_true (progB L) with hL | hL
  rotate_left
  · rw [hL, if_neg (by simp)] at G
    rw [hL, Bool.false_and] at hfin
    have HG := Lib.hid G
    have HF := Lib.hid hfin
    clear G hfin hr
    go_enter Try.func22, Try.ntmps22
    go_wp2_with fail
    rw [← HW.out]
    go_wp2_with fail
    refine HG.out.mono ?_
    rintro e w1 ⟨⟨A, c⟩, rfl, hb, -, -⟩
    have B1 := Lib.hid (below_on BW.out hb)
    have hA : (BssV ⟨A, c⟩ [] : Value) = .slice A 0 c := rfl
    rw [hA]
    clear hb c0
    go_wp2
    go_loopw [14] (fun iv wr => iv = .int .i64 0 ∧ wr = w1) (fun iv _ => 0)
    case atStart => exact ⟨rfl, rfl⟩
    case round =>
      obtain ⟨rfl, rfl⟩ := hrel
      go_wp2
      go_ret
      exact ⟨by rw [← HF.out]; rfl, B1.out⟩
  · rw [hL, if_pos rfl] at G
    rw [hL, Bool.true_and] at hfin
    have l3 := (prog_len hL).2
    have HG := Lib.hid G
    have HF := Lib.hid hfin
    clear G hfin hr
    obtain ⟨E, hE⟩ : ∃ E, matR 3 2 (guM L) = E := ⟨_, rfl⟩
    rw [hE] at HG
    have hEl : E.length = 3 := by rw [← hE]; simp
    have HE := Lib.hid hE
    clear hE
    go_enter Try.func22, Try.ntmps22
    go_wp2_with fail
    rw [← HW.out]
    go_wp2_with fail
    refine HG.out.mono ?_
    rintro e w1 ⟨k, rfl, hb, hsz, hbo⟩
    rw [← HE.out] at hbo
    obtain ⟨g, D, C, hkA, hg, hcells⟩ := gu_cells hbo
    have B1 := Lib.hid (below_on BW.out hb)
    have K1 := Lib.hid (KW.out.below hb KW.out.lt)
    have P1 := Lib.hid (P0.out.below hb (by omega))
    have HC := Lib.hid hcells
    have hV : (BssV k E : Value) = .slice (some ⟨g, 0, none⟩) 3 k.c := by unfold BssV; rw [hkA, hEl]
    rw [hV]
    clear hb c0 hbo hcells HG hV hkA
    go_wp2
    go_loopw [14] (fun iv wr => ∃ p : Nat, p ≤ 3 ∧ iv = .int .i64 p ∧ Below w1.heap.size w1 wr ∧ Hid (∀ q, q < p → (!(cstB L (q : Int) && !(guM L q 0 || guM L q 1))) = true)) (fun iv _ => 3 - (intOf iv).toNat)
    case atStart => exact ⟨0, by omega, rfl, Below.refl _ _, Lib.hid fun q hq => absurd hq (by omega)⟩
    case round =>
      obtain ⟨p, hp, rfl, hbel, hgood⟩ := hrel
      have hzr := hbel.size
      have HB := Lib.hid hbel
      by_cases hlt : p < 3
      · have hp1 : (p : Int) < 3 := by omega
        obtain ⟨hc0, hd, hcl⟩ := HC.out p hlt
        have cg : wr.cell? ⟨g, p, none⟩ = some (.slice (some ⟨D p, 0, none⟩) 2 (C p)) := (hbel.cell (p := ⟨g, p, none⟩) hg).trans hc0
        have KR := Lib.hid (K1.out.below hbel K1.out.lt)
        have PR := Lib.hid (P1.out.below hbel (by omega))
        have cb : wr.cell? ⟨w.heap.size, 0, none⟩ = some (.slice h.A L.length h.c) := KR.out.cell 0
        have lb := KR.out.lt
        have hgw : g < wr.heap.size := by omega
        have hdw : D p < wr.heap.size := by omega
        have m0 := (hbel.cell (p := ⟨D p, 0, none⟩) hd).trans (hcl 0 (by omega))
        have m1 := (hbel.cell (p := ⟨D p, 1, none⟩) hd).trans (hcl 1 (by omega))
        obtain ⟨c, hc⟩ : ∃ c, cstB L (p : Int) = c := ⟨_, rfl⟩
        have Hct := Lib.hid (fun (V : World) (hb' : Below wr.heap.size wr V) => contested_any h L p V B (PR.out.below hb' (by omega)) (by have := hb'.size; omega) l3 hlt c (Lib.hid hc))
        have Hay := Lib.hid (fun (V : World) (hb' : Below wr.heap.size wr V) => anyof_any (D p) (C p) (guM L p 0) (guM L p 1) V (by have := hb'.size; omega) ((hb'.cell (p := ⟨D p, 0, none⟩) hdw).trans m0) ((hb'.cell (p := ⟨D p, 1, none⟩) hdw).trans m1))
        have HCc := Lib.hid hc
        obtain ⟨a, ha⟩ : ∃ a, (guM L p 0 || guM L p 1) = a := ⟨_, rfl⟩
        rw [ha] at Hay
        have HA := Lib.hid ha
        have HN := Lib.hid (show (!(c && !a)) = true → ∀ q, q < p + 1 → (!(cstB L (q : Int) && !(guM L q 0 || guM L q 1))) = true from fun hh q hq => by
          by_cases e : q = p
          · subst e; rw [HCc.out, HA.out]; exact hh
          · exact hgood.out q (by omega))
        have HX := Lib.hid (show (!(c && !a)) = false → false = r from fun hh => by
          rw [← HF.out, eq_comm, List.all_eq_false]
          refine ⟨p, List.mem_range.2 hlt, ?_⟩
          rw [HCc.out, HA.out, hh]; simp)
        clear hc ha hbel hgood hc0 hcl m0 m1
        cases c
        · go_wp2_with fail
          refine (Hct.out wr (Below.refl _ _)).mono ?_
          rintro e w2 ⟨rfl, hb2⟩
          have H2 := Lib.hid (below_on HB.out hb2)
          clear hb2 cb cg
          go_wp2
          go_roundw
          case rel => exact ⟨p + 1, by omega, by go_num, H2.out, Lib.hid (HN.out rfl)⟩
          case measure => simp [intOf]; omega
        · cases a
          · go_wp2_with fail
            refine (Hct.out wr (Below.refl _ _)).mono ?_
            rintro e w2 ⟨rfl, hb2⟩
            have H2 := Lib.hid (below_on HB.out hb2)
            have Hay2 := Lib.hid (Hay.out w2 hb2)
            clear hb2 cb cg
            go_wp2_with fail
            refine Hay2.out.mono ?_
            rintro e w3 ⟨rfl, rfl⟩
            go_wp2
            go_ret
            exact ⟨by rw [← HX.out rfl]; rfl, B1.out.trans (H2.out.mono (by omega))⟩
          · go_wp2_with fail
            refine (Hct.out wr (Below.refl _ _)).mono ?_
            rintro e w2 ⟨rfl, hb2⟩
            have H2 := Lib.hid (below_on HB.out hb2)
            have Hay2 := Lib.hid (Hay.out w2 hb2)
            clear hb2 cb cg
            go_wp2_with fail
            refine Hay2.out.mono ?_
            rintro e w3 ⟨rfl, rfl⟩
            go_wp2
            go_roundw
            case rel => exact ⟨p + 1, by omega, by go_num, H2.out, Lib.hid (HN.out rfl)⟩
            case measure => simp [intOf]; omega
      · have hpe : p = 3 := by omega
        subst hpe
        have hR := Lib.hid (show r = true from by
          rw [← HF.out, List.all_eq_true]
          intro q hq
          exact hgood.out q (List.mem_range.1 hq))
        clear hbel hgood
        go_wp2
        go_ret
        exact ⟨by rw [hR.out]; rfl, B1.out.trans (HB.out.mono (by omega))⟩
end Go.Proofs.Ytiljakbjbiinkaa
