/-
  What the program's Guards comes to.
-/
import Derived.Test.YtiljakbjbiinkaaILkp
import Derived.Test.YtiljakbjbiinkaaReads
import Derived.Deep.RegionHeld3
namespace Go.Proofs.Ytiljakbjbiinkaa
open Go.RowKit Pl
set_option maxHeartbeats 4000000
set_option maxRecDepth 100000
set_option linter.unusedVariables false

def lkN (p : Nat) (c0 c1 : Bool) (k : Nat) : Int :=
  match k with
  | 0 => 0
  | 1 => if c0 then 0 else (if p = 0 then 1 else if p = 1 then 4 else 16)
  | _ => if c0 then (if c1 then 0 else (if p = 0 then 2 else if p = 1 then 8 else 32)) else (if c1 then (if p = 0 then 1 else if p = 1 then 4 else 16) else (if p = 0 then 3 else if p = 1 then 12 else 48))
def plZ (x : Sm) : Int := placeZ x.k x.a x.b x.c x.s
/-- The bits, of the statement that a thread does next. -/
def lkX (f : Nat → Nat) (t : Nat) (x : Sm) : Int := if plZ x = -1 then 0 else lkN (plZ x).toNat (f 18 == t + 1) (f 19 == t + 1) 2
theorem place_lim {k a b c : Int} {s : Bool} : placeZ k a b c s = -1 ∨ placeZ k a b c s = 0 ∨ placeZ k a b c s = 1 ∨ placeZ k a b c s = 2 := by
  unfold placeZ
  by_cases hok : okB k a b c s = true
  · rw [if_pos hok]
    by_cases h2 : k = 2
    · obtain ⟨n, hn, e⟩ := ok_a3 hok (by omega)
      rw [if_pos h2]; omega
    · rw [if_neg h2]
      by_cases h1 : k = 1 ∨ k = 3 ∨ k = 4
      · obtain ⟨n, hn, e⟩ := ok_b3 hok h1
        rw [if_pos h1]; omega
      · rw [if_neg h1]; omega
  · rw [if_neg hok]; omega
theorem lacking_any (h : PgH) (L : Pg) (f : Nat → Nat) (t : Nat) (w : World) (B : Nat) (hP : PgR w B h L) (hB : B ≤ w.heap.size) (hL : progB L = true) (I : Inv L f) (ht : t < L.length) (hlt : f (3 + t) < (L.getD t []).length) (r : Int) (hr : Hid (lkX f t (smAt L t (f (3 + t))) = r)) :
    Calls Try.prog 124 #[PgV h L, .int .u64 (enc WS f : Nat), .int .i64 t] w fun e w' => e = .returned (.int .u64 r) ∧ Below w.heap.size w w' := by
  obtain ⟨W, hW⟩ : ∃ W, W = w.alloc (.cells #[.slice h.A L.length h.c] 30) := ⟨_, rfl⟩
  have bW : Below w.heap.size w W := by rw [hW]; go_grown
  have KW := Lib.hid (show Bk W w.heap.size 30 #[.slice h.A L.length h.c] by rw [hW]; exact Bk.new _ _ _)
  have BW := Lib.hid bW
  have P0 := Lib.hid (hP.below bW hB)
  have HW := Lib.hid hW
  have hz := bW.size
  have lb0 := KW.out.lt
  clear hW bW hP
  have cb0 : W.cell? ⟨w.heap.size, 0, none⟩ = some (.slice h.A L.length h.c) := KW.out.cell 0
  have hr0 := hr.out
  obtain ⟨x, hx⟩ : ∃ x, smAt L t (f (3 + t)) = x := ⟨_, rfl⟩
  have hev := Lib.hid (fun (V : World) (hP : PgR V B h L) (hB : B ≤ V.heap.size) => nextev_any h L f t V B hP hB hL I.good ht hlt)
  unfold evV at hev
  rw [hx] at hr0 hev
  obtain ⟨k, a, b, c, s⟩ := x
  have hfd := ev_stmt (t : Int) (f (3 + t) : Nat) k a b c s
  clear hr hx
  have E0 := Lib.hid (fun (V : World) => entF fld3 I.good.ok 0 (show 0 < 2 by omega) V _ (Lib.hid rfl))
  have E1 := Lib.hid (fun (V : World) => entF fld3 I.good.ok 1 (show 1 < 2 by omega) V _ (Lib.hid rfl))
  have q0 : (((f (18 + 0) : Nat) : Int) + fL 3 != (t : Int)) = !(f 18 == t + 1) := by
    have e : fL 3 = -1 := rfl
    rw [e, bne, Bool.eq_iff_iff]; simp; omega
  have q1 : (((f (18 + 1) : Nat) : Int) + fL 3 != (t : Int)) = !(f 19 == t + 1) := by
    have e : fL 3 = -1 := rfl
    rw [e, bne, Bool.eq_iff_iff]; simp; omega
  obtain ⟨v0, hv0⟩ : ∃ v0, ((f (18 + 0) : Nat) : Int) + fL 3 = v0 := ⟨_, rfl⟩
  obtain ⟨v1, hv1⟩ : ∃ v1, ((f (18 + 1) : Nat) : Int) + fL 3 = v1 := ⟨_, rfl⟩
  rw [hv0] at E0 q0
  rw [hv1] at E1 q1
  clear hv0 hv1
  have hpl := Lib.hid (fun (V : World) => iplace_any k a b c s V)
  have hr1 : (if placeZ k a b c s = -1 then 0 else lkN (placeZ k a b c s).toNat (f 18 == t + 1) (f 19 == t + 1) 2) = r := hr0
  have hlim := place_lim (k := k) (a := a) (b := b) (c := c) (s := s)
  generalize placeZ k a b c s = p at hpl hr1 hlim
  generalize (f 18 == t + 1) = b0 at q0 hr1
  generalize (f 19 == t + 1) = b1 at q1 hr1
  have HR := Lib.hid hr1
  clear hr0 hr1
  by_cases hp : p = -1
  · subst hp
    have hfin : Hid (r = 0) := Lib.hid (by rw [← HR.out, if_pos rfl])
    go_enter Try.func124, Try.ntmps124
    go_wp2_with fail
    rw [← HW.out]
    go_wp2_with fail
    refine (hev.out W P0.out (by omega)).mono ?_
    rintro e w4 ⟨rfl, hb4⟩
    have H4 := Lib.hid (below_on BW.out hb4)
    clear hb4 cb0
    go_wp2_with fail
    refine (hpl.out w4).mono ?_
    rintro e w5 ⟨rfl, hb5⟩
    have H5 := Lib.hid (below_on H4.out hb5)
    clear hb5
    go_wp2
    obtain ⟨V, hV⟩ : ∃ V, V = w5 := ⟨_, rfl⟩
    rw [← hV] at H5
    go_loopw [8, 16] (fun bv iv wr => ∃ q : Nat, q ≤ 2 ∧ iv = .int .i64 q ∧ bv = .int .u64 0 ∧ Below V.heap.size V wr) (fun _ iv _ => 2 - (intOf iv).toNat)
    case atStart => exact ⟨0, by omega, rfl, rfl, by rw [hV]; exact Below.refl _ _⟩
    case round =>
      obtain ⟨q, hq, rfl, rfl, hbel⟩ := hrel
      have HB := Lib.hid (below_on H5.out hbel)
      have HBel := Lib.hid hbel
      clear hbel
      by_cases hq2 : q < 2
      · have hq3 : (q : Int) < 2 := by omega
        go_wp2
        go_roundw
        case rel => exact ⟨q + 1, by omega, by go_num, rfl, HBel.out⟩
        case measure => simp [intOf]; omega
      · have hq3 : ¬ (q : Int) < 2 := by omega
        go_wp2
        go_ret
        exact ⟨by rw [hfin.out]; rfl, HB.out⟩
  · have hr2 : lkN p.toNat b0 b1 2 = r := by rw [← HR.out, if_neg hp]
    have HR2 := Lib.hid hr2
    have hp3 : p = 0 ∨ p = 1 ∨ p = 2 := by omega
    have hpn : (p != -1) = true := by simpa using hp
    clear hr2 HR hlim
    go_enter Try.func124, Try.ntmps124
    go_wp2_with fail
    rw [← HW.out]
    go_wp2_with fail
    refine (hev.out W P0.out (by omega)).mono ?_
    rintro e w4 ⟨rfl, hb4⟩
    have H4 := Lib.hid (below_on BW.out hb4)
    clear hb4 cb0
    go_wp2_with fail
    refine (hpl.out w4).mono ?_
    rintro e w5 ⟨rfl, hb5⟩
    have H5 := Lib.hid (below_on H4.out hb5)
    clear hb5
    go_wp2
    obtain ⟨V, hV⟩ : ∃ V, V = w5 := ⟨_, rfl⟩
    rw [← hV] at H5
    go_loopw [8, 16] (fun bv iv wr => ∃ q : Nat, q ≤ 2 ∧ iv = .int .i64 q ∧ bv = .int .u64 (lkN p.toNat b0 b1 q) ∧ Below V.heap.size V wr) (fun _ iv _ => 2 - (intOf iv).toNat)
    case atStart => exact ⟨0, by omega, rfl, rfl, by rw [hV]; exact Below.refl _ _⟩
    case round =>
      obtain ⟨q, hq, rfl, rfl, hbel⟩ := hrel
      have HB := Lib.hid (below_on H5.out hbel)
      have HBel := Lib.hid hbel
      clear hbel
      match q, hq with
      | 0, _ =>
        rcases hp3 with rfl | rfl | rfl <;> cases b0
        all_goals
          simp only [lkN]
          go_wp2_with fail
          refine (E0.out wr).mono ?_
          rintro e w6 ⟨rfl, hb6⟩
          have B6 := Lib.hid (below_on HBel.out hb6)
          clear hb6
          go_wp2
          go_roundw
          case rel => exact ⟨1, by omega, by go_num, by first | rfl | decide | (simp [lkN]; done) | (simp [lkN]; rfl), B6.out⟩
          case measure => simp [intOf]
      | 1, _ =>
        rcases hp3 with rfl | rfl | rfl <;> cases b0 <;> cases b1
        all_goals
          simp only [lkN, Bool.false_eq_true, if_true, if_false]
          go_wp2_with fail
          refine (E1.out wr).mono ?_
          rintro e w6 ⟨rfl, hb6⟩
          have B6 := Lib.hid (below_on HBel.out hb6)
          clear hb6
          go_wp2
          go_roundw
          case rel => exact ⟨2, by omega, by go_num, by first | rfl | decide | (simp [lkN]; done) | (simp [lkN]; rfl), B6.out⟩
          case measure => simp [intOf]
      | 2, _ =>
        go_wp2
        go_ret
        exact ⟨by rw [← HR2.out]; rfl, HB.out⟩
end Go.Proofs.Ytiljakbjbiinkaa
namespace Go.Proofs.Ytiljakbjbiinkaa
set_option maxHeartbeats 2000000
set_option maxRecDepth 100000
set_option linter.unusedVariables false

/-- Whether a thread that goes on is at a place without a lock. -/
def lkB (L : Pg) (m : Mv) (pl l : Nat) : Bool := plZ (smAt L m.t (m.f (3 + m.t))) == (pl : Int) && !(m.f (18 + l) == m.t + 1)
def lkM (L : Pg) (m : Mv) : Nat := (lkX m.f m.t (smAt L m.t (m.f (3 + m.t)))).toNat
theorem lkN_all : ∀ (p : Fin 3) (c0 c1 : Bool), 0 ≤ lkN p.val c0 c1 2 ∧ lkN p.val c0 c1 2 < 64 ∧ ∀ (q : Fin 3), (lkN p.val c0 c1 2).toNat.testBit (q.val * 2) = (p.val == q.val && !c0) ∧ (lkN p.val c0 c1 2).toNat.testBit (q.val * 2 + 1) = (p.val == q.val && !c1) := by decide
theorem plZ_fin (x : Sm) : plZ x = -1 ∨ ∃ p : Fin 3, plZ x = (p.val : Int) := by
  rcases place_lim (k := x.k) (a := x.a) (b := x.b) (c := x.c) (s := x.s) with h | h | h | h
  · exact Or.inl h
  · exact Or.inr ⟨0, h⟩
  · exact Or.inr ⟨1, h⟩
  · exact Or.inr ⟨2, h⟩
theorem lkM_cast (L : Pg) (m : Mv) : ((lkM L m : Nat) : Int) = lkX m.f m.t (smAt L m.t (m.f (3 + m.t))) ∧ lkM L m < 64 := by
  unfold lkM lkX
  rcases plZ_fin (smAt L m.t (m.f (3 + m.t))) with h | ⟨p, h⟩
  · rw [if_pos h]; exact ⟨rfl, by decide⟩
  · rw [h, if_neg (by omega), Int.toNat_natCast]
    obtain ⟨h0, h1, -⟩ := lkN_all p (m.f 18 == m.t + 1) (m.f 19 == m.t + 1)
    omega
theorem lkM_bit {L : Pg} {m : Mv} {q l : Nat} (hq : q < 3) (hl : l < 2) : (lkM L m).testBit (q * 2 + l) = lkB L m q l := by
  unfold lkM lkX lkB
  rcases plZ_fin (smAt L m.t (m.f (3 + m.t))) with h | ⟨p, h⟩
  · rw [if_pos h, h]
    have : ((-1 : Int) == (q : Int)) = false := by rw [beq_eq_false_iff_ne]; omega
    rw [this]; simp
  · rw [h, if_neg (by omega), Int.toNat_natCast]
    obtain ⟨-, -, h2⟩ := lkN_all p (m.f 18 == m.t + 1) (m.f 19 == m.t + 1)
    obtain ⟨e0, e1⟩ := h2 ⟨q, hq⟩
    have ep : ((p.val : Int) == (q : Int)) = (p.val == q) := by rw [Bool.eq_iff_iff]; simp; omega
    rw [ep]
    match l, hl with
    | 0, _ => exact e0
    | 1, _ => exact e1
/-- For each place and lock, whether in all whole orders whoever is there has it. -/
def guM (L : Pg) (pl l : Nat) : Bool := !((allO L).any fun r => (visits L (keptF L zeroF L.length) r).any fun m => lkB L m pl l)
theorem guM_of {L : Pg} (hL : progB L = true) {ms : List Mv} (hm : ∀ m : Mv, m ∈ ms ↔ Rch L m.f ∧ m.t < L.length ∧ goB L m.f (m.t : Int) = true) (pl l : Nat) : (!ms.any (fun m => lkB L m pl l)) = guM L pl l := by
  unfold guM
  congr 1
  rw [Bool.eq_iff_iff, List.any_eq_true, List.any_eq_true]
  constructor
  · rintro ⟨m, h1, h2⟩
    obtain ⟨r, hr, hv⟩ := (visits_iff hL).2 ((hm m).1 h1)
    exact ⟨r, hr, List.any_eq_true.2 ⟨m, hv, h2⟩⟩
  · rintro ⟨r, hr, h1⟩
    obtain ⟨m, hv, h2⟩ := List.any_eq_true.1 h1
    exact ⟨m, (hm m).2 ((visits_iff hL).1 ⟨r, hr, hv⟩), h2⟩
def guE (L : Pg) : List (List Bool) := if progB L then matR 3 2 (guM L) else []
theorem guE_small {L : Pg} (_ : PgS L) : BssS (guE L) := by
  unfold guE
  split
  · exact ⟨by simp, by simp [matR, tot, List.range_succ]⟩
  · exact ⟨by simp, by simp [tot]⟩
theorem orl_any {l : List Mv} {L : Pg} {k A : Nat} {m : Mv} (hk : l[k]? = some m) (h : ∀ b, A.testBit b = (l.take k).any fun m => (lkM L m).testBit b) : ∀ b, (A ||| lkM L m).testBit b = (l.take (k + 1)).any fun m => (lkM L m).testBit b := fun b => by
  rw [Nat.testBit_or, h b, List.take_add_one, hk, List.any_append]
  simp
end Go.Proofs.Ytiljakbjbiinkaa
namespace Go.Proofs.Ytiljakbjbiinkaa
open Go.RowKit Pl
set_option maxHeartbeats 4000000
set_option maxRecDepth 100000
set_option linter.unusedVariables false

theorem xor_u64 {a b : Nat} (ha : a < 18446744073709551616) (hb : b < 18446744073709551616) : bits .xor .u64 (a : Int) (b : Int) = ((a ^^^ b : Nat) : Int) := by
  show IntKind.u64.wrap ((BitVec.ofInt 64 (a : Int) ^^^ BitVec.ofInt 64 (b : Int)).toNat : Int) = _
  rw [BitVec.toNat_xor, ofInt_nat ha, ofInt_nat hb]
  have : a ^^^ b < 2 ^ 64 := Nat.xor_lt_two_pow (by omega) (by omega)
  exact wrapu_small (by omega) (by omega)
theorem not_u64 {A : Nat} (hA : A < 64) : bits .xor .u64 IntKind.u64.max (A : Int) = ((18446744073709551615 ^^^ A : Nat) : Int) := by
  have e : IntKind.u64.max = ((18446744073709551615 : Nat) : Int) := by decide
  rw [e]
  exact xor_u64 (by omega) (by omega)
theorem igua_any (h : PgH) (L : Pg) (w : World) (B : Nat) (hP : PgR w B h L) (hB : B ≤ w.heap.size) (SP : PgS L) :
    Calls Try.prog 58 #[PgV h L] w (AnsBs w (guE L) (progB L)) := by
  have hm := (PgS_L SP).l
  obtain ⟨W, hW⟩ : ∃ W, W = w.alloc (.cells #[.slice h.A L.length h.c] 30) := ⟨_, rfl⟩
  have bW : Below w.heap.size w W := by rw [hW]; go_grown
  have KW := Lib.hid (show Bk W w.heap.size 30 #[.slice h.A L.length h.c] by rw [hW]; exact Bk.new _ _ _)
  have BW := Lib.hid bW
  have P0 := Lib.hid (hP.below bW hB)
  have HW := Lib.hid hW
  have hz := bW.size
  clear hW bW hP
  unfold guE
  rcases Bool.eq_false_or_eq_true (progB L) with hL | hL
  rotate_left
  · rw [hL, if_neg (by simp)]
    have HL := Lib.hid hL
    clear hL
    go_enter Try.func58, Try.ntmps58
    go_wp2_with fail
    rw [← HW.out]
    refine (iprog_any h.A L h.c W B P0.out (by omega) hm false HL).mono ?_
    rintro e w1 ⟨rfl, hb⟩
    have B1 := Lib.hid (below_on BW.out hb)
    clear hb
    go_wp2
    go_returns
    exact ⟨⟨none, 0⟩, rfl, B1.out, B1.out.size, ⟨OwnVss.nil _ _ _ _ _ _⟩⟩
  rw [hL, if_pos rfl]
  have HL := Lib.hid hL
  have l3 := (prog_len hL).2
  clear hL
  obtain ⟨E, hE⟩ : ∃ E, matR 3 2 (guM L) = E := ⟨_, rfl⟩
  rw [hE]
  have HE := Lib.hid hE
  clear hE
  go_enter Try.func58, Try.ntmps58
  go_wp2_with fail
  rw [← HW.out]
  refine (iprog_any h.A L h.c W B P0.out (by omega) hm true HL).mono ?_
  rintro e w1 ⟨rfl, hb⟩
  have B1 := Lib.hid (below_on BW.out hb)
  have K1 := Lib.hid (KW.out.below hb KW.out.lt)
  have P1 := Lib.hid (P0.out.below hb (by omega))
  have z1 := hb.size
  have c1 : w1.cell? ⟨w.heap.size, 0, none⟩ = some (.slice h.A L.length h.c) := K1.out.cell 0
  have l1 := K1.out.lt
  clear hb
  go_wp2_with fail
  refine (movesof_any h L w1 B P1.out (by omega) HL.out).mono ?_
  rintro e w2 ⟨ms, hms, hml, g2, cap2, rfl, hg2, hb2, ho2⟩
  have B2 := Lib.hid (below_on B1.out hb2)
  have K2 := Lib.hid (K1.out.below hb2 K1.out.lt)
  have P2 := Lib.hid (P1.out.below hb2 (by omega))
  have O2 := Lib.hid ho2
  have HM := Lib.hid hms
  have z2 := hb2.size
  clear hb2 ho2 c1 hms
  go_wp2
  go_loopw [4, 13] (fun bv iv wr => ∃ k A : Nat, k ≤ ms.length ∧ iv = .int .i64 k ∧ bv = .int .u64 A ∧ A < 64 ∧ Below w2.heap.size w2 wr ∧ Hid (∀ b, A.testBit b = (ms.take k).any fun m => (lkM L m).testBit b)) (fun _ iv _ => ms.length - (intOf iv).toNat)
  case atStart => exact ⟨0, 0, Nat.zero_le _, rfl, rfl, by omega, Below.refl _ _, Lib.hid fun b => by simp⟩
  case round =>
    obtain ⟨k, A, hk, rfl, rfl, hA, hbel, hbits⟩ := hrel
    have hz3 := hbel.size
    have HB := Lib.hid (below_on B2.out hbel)
    by_cases hlt : k < ms.length
    · have hi1 : (k : Int) < (ms.length : Int) := by omega
      have K3 := Lib.hid (K2.out.below hbel K2.out.lt)
      have PR := Lib.hid (P2.out.below hbel (by omega))
      obtain ⟨m, hmk⟩ : ∃ m, ms[k]? = some m := ⟨_, List.getElem?_eq_getElem hlt⟩
      obtain ⟨hr, ht, hg⟩ := (HM.out m).1 (List.mem_of_getElem? hmk)
      have I := hr.inv HL.out
      have hnx := next_ok HL.out I ht hg
      obtain ⟨cm0, cm1⟩ := mv_cells O2.out hmk
      have hgl : g2 < w2.heap.size := own_blk O2.out
      have cm0 : wr.cell? ⟨g2, k * 2, none⟩ = some (.int .u64 ((enc WS m.f : Nat) : Int)) := (hbel.cell (p := ⟨g2, k * 2, none⟩) hgl).trans cm0
      have cm1 : wr.cell? ⟨g2, k * 2 + 1, none⟩ = some (.int .i64 (m.t : Int)) := (hbel.cell (p := ⟨g2, k * 2 + 1, none⟩) hgl).trans cm1
      have hgr : g2 < wr.heap.size := by omega
      obtain ⟨hc1, hc2⟩ := lkM_cast L m
      have HC1 := Lib.hid hc1.symm
      have HN := Lib.hid (orl_any (L := L) hmk hbits.out)
      have HI := Lib.hid I
      have HX := Lib.hid hnx.1
      have ho : bits .or .u64 (A : Int) ((lkM L m : Nat) : Int) = ((A ||| lkM L m : Nat) : Int) := or_u64 (by omega) (by omega)
      have ho2 : A ||| lkM L m < 64 := Nat.or_lt_two_pow (n := 6) hA hc2
      have cb : wr.cell? ⟨w.heap.size, 0, none⟩ = some (.slice h.A L.length h.c) := K3.out.cell 0
      have lb := K3.out.lt
      have HBel := Lib.hid hbel
      clear hbits hmk hr hg I hnx hc1 hbel
      generalize lkM L m = T at HC1 HN ho ho2 hc2
      go_wp2_with fail
      refine (lacking_any h L m.f m.t _ B (PR.out.below ((Below.refl _ _).alloc (Nat.le_refl _) _) (by omega)) (by simp; omega) HL.out HI.out ht HX.out _ HC1).mono ?_
      rintro e w4 ⟨rfl, hb4⟩
      have H4 := Lib.hid (below_on (HBel.out.alloc hz3 _) hb4)
      clear hb4 cb cm0 cm1
      go_wp2
      go_roundw
      case rel => exact ⟨k + 1, A ||| T, by omega, by go_num, rfl, ho2, H4.out, HN⟩
      case measure => simp [intOf]; omega
    · have hkl : k = ms.length := by omega
      have hbs : ∀ (r l : Nat), r < 3 → l < 2 → (18446744073709551615 ^^^ A).testBit (r * 2 + l) = guM L r l := fun r l hr hl => by
        have h1 := Nat.testBit_two_pow_sub_one 64 (r * 2 + l)
        have e64 : (2 : Nat) ^ 64 - 1 = 18446744073709551615 := by decide
        rw [e64] at h1
        rw [Nat.testBit_xor, h1, decide_eq_true (by omega), Bool.true_xor, hbits.out, hkl, List.take_length, ← guM_of HL.out HM.out r l]
        congr 1
        rw [Bool.eq_iff_iff, List.any_eq_true, List.any_eq_true]
        constructor
        · rintro ⟨m, h1, h2⟩
          exact ⟨m, h1, by rw [← lkM_bit hr hl]; exact h2⟩
        · rintro ⟨m, h1, h2⟩
          exact ⟨m, h1, by rw [lkM_bit hr hl]; exact h2⟩
      have hct := lockrows_any ((18446744073709551615 ^^^ A : Nat) : Int) 3 (guM L) wr (by omega) (Lib.hid fun r l hr hl V => by
        have := hasbit_any (18446744073709551615 ^^^ A) (r * 2 + l) V (Nat.xor_lt_two_pow (n := 64) (by omega) (by omega)) (by omega) _ (Lib.hid (hbs r l hr hl))
        rwa [show ((r * 2 + l : Nat) : Int) = (r : Int) * 2 + (l : Int) by omega] at this)
      rw [HE.out] at hct
      have Hct := Lib.hid hct
      have hEl := Lib.hid (show E.length = 3 by rw [← HE.out]; simp)
      have hw := HB.out.size
      have hnx := not_u64 hA
      clear hbits hbs hct hbel
      subst hkl
      generalize (18446744073709551615 ^^^ A) = N at Hct hnx
      go_wp2_with fail
      refine Hct.out.mono ?_
      rintro e w5 ⟨rfl, hb5, ho5⟩
      have H5 := Lib.hid (below_on HB.out hb5)
      have O5 := Lib.hid ho5
      clear hb5 ho5
      go_wp2
      go_returns
      refine ⟨⟨some ⟨wr.heap.size, 0, none⟩, 3⟩, ?_, H5.out, H5.out.size, ⟨O5.out.o0.keep hw (Nat.le_refl _) fun _ _ _ => rfl⟩⟩
      show _ = Ending.returned (.tuple #[.slice _ E.length 3, .bool true])
      rw [hEl.out]; rfl
end Go.Proofs.Ytiljakbjbiinkaa
