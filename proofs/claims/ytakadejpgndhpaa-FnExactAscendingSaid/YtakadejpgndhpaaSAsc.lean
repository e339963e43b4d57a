/-
  What the reference model's l6Ascends and Ascending come to.
-/
import Derived.Test.YtakadejpgndhpaaAsc
import Derived.Deep.RegionHeld3
namespace Go.Proofs.Ytakadejpgndhpaa
open Go.RowKit Pl
set_option maxHeartbeats 4000000
set_option maxRecDepth 100000
set_option linter.unusedVariables false

def bt (b0 b1 : Bool) (q : Nat) : Bool := if q = 0 then b0 else b1
def hasC (b0 b1 : Bool) : Array Value := #[.bool b0, .bool b1]
theorem hasC_at {b0 b1 : Bool} {q : Nat} (h : q < 2) : (hasC b0 b1)[q]? = some (.bool (bt b0 b1 q)) := by
  match q, h with
  | 0, _ => rfl
  | 1, _ => rfl
theorem asc7 {b0 b1 : Bool} {b c : Int} {s : Bool} {n : Nat} (hn : n < 2) : ascN b0 b1 ⟨7, (n : Int), b, c, s⟩ = if bt b0 b1 n then some (if n = 0 then (false, b1) else (b0, false)) else none := by
  match n, hn with
  | 0, _ => cases b0 <;> rfl
  | 1, _ => cases b1 <;> rfl
theorem asc6_no {b0 b1 : Bool} {b c : Int} {s : Bool} {n q : Nat} (hnq : n ≤ q) (hq : q < 2) (h : bt b0 b1 q = true) : ascN b0 b1 ⟨6, (n : Int), b, c, s⟩ = none := by
  match n, q, hnq, hq, h with
  | 0, 0, _, _, h => have h : b0 = true := h; subst h; cases b1 <;> rfl
  | 0, 1, _, _, h => have h : b1 = true := h; subst h; cases b0 <;> rfl
  | 1, 1, _, _, h => have h : b1 = true := h; subst h; cases b0 <;> rfl
  | n + 2, q, h1, h2, _ => exact absurd h1 (by omega)
theorem asc6_yes {b0 b1 : Bool} {b c : Int} {s : Bool} {n : Nat} (hn : n < 2) (h : ∀ p, n ≤ p → p < 2 → bt b0 b1 p = false) : ascN b0 b1 ⟨6, (n : Int), b, c, s⟩ = some (if n = 0 then (true, b1) else (b0, true)) := by
  match n, hn with
  | 0, _ => have h0 : b0 = false := h 0 (by omega) (by omega); have h1 : b1 = false := h 1 (by omega) (by omega); subst h0; subst h1; rfl
  | 1, _ => have h1 : b1 = false := h 1 (by omega) (by omega); subst h1; cases b0 <;> rfl
theorem hasC_put {w : World} {g n : Nat} {b0 b1 v : Bool} (h : Bk w g 4 (hasC b0 b1)) (hn : n < 2) : Bk (w.setCell ⟨g, n, none⟩ (.bool v)) g 4 (hasC (if n = 0 then (v, b1) else (b0, v)).1 (if n = 0 then (v, b1) else (b0, v)).2) := by
  have h0 := h.set n (.bool v)
  match n, hn with
  | 0, _ => simpa [hasC] using h0
  | 1, _ => simpa [hasC] using h0
theorem sascends_any (A : Option Addr) (xs : List Sm) (c : Nat) (w : World) (B : Nat) (h : Row w B A xs) (hB : B ≤ w.heap.size) (hm : xs.length ≤ 6) (hok : Hid (∀ (i : Nat) (x : Sm), xs[i]? = some x → x.okb = true)) (r : Bool) (hr : Hid (ascR xs false false = r)) :
    Calls Try.prog 100 #[.slice A xs.length c] w fun e w' => e = .returned (.bool r) ∧ Below w.heap.size w w' := by
  obtain ⟨i0, hi, hz0, hz1, hz2⟩ := info_parts Try.info4
  have hmk := make_any Try.underlying73 hi hz0 2 (by rw [hz2]; omega) (by omega)
  rw [hz1, show ((2 : Nat) : Int) = 2 from rfl, show 2 * 1 = 2 from rfl] at hmk
  have start := Lib.hid (show Bk (w.alloc (.cells (madeCells #[.bool false] 2) 4)) w.heap.size 4 (hasC false false) from by
    have e : madeCells #[.bool false] 2 = hasC false false := by first | (simp [madeCells, hasC, Array.range_succ]; done) | (apply Array.ext' ; simp [madeCells, hasC, List.range_succ])
    rw [e]; exact Bk.new _ _ _)
  go_enter Try.func100, Try.ntmps100
  go_wp2
  go_loopw [4] (fun iv wr => ∃ (k : Nat) (b0 b1 : Bool), k ≤ xs.length ∧ iv = .int .i64 k ∧ Bk wr w.heap.size 4 (hasC b0 b1) ∧ Below w.heap.size w wr ∧ Hid (ascR (xs.drop k) b0 b1 = r)) (fun iv _ => xs.length - (intOf iv).toNat)
  case atStart => exact ⟨0, false, false, Nat.zero_le _, rfl, start.out, (Below.refl _ _).alloc (Nat.le_refl _) _, by simpa using hr⟩
  case round =>
    obtain ⟨k, b0, b1, hk, rfl, hbk, hbel, hrest⟩ := hrel
    clear hr hmk start
    have hz := hbel.size
    have hg := hbk.lt
    have HK := Lib.hid hbk
    have HBel := Lib.hid hbel
    by_cases hlt : k < xs.length
    · have hi1 : (k : Int) < (xs.length : Int) := by omega
      obtain ⟨b, off, x, rfl, hb, hx, hd, x0, x1, x2, x3, x4⟩ := (h.below hbel hB).at_ hlt
      have hxk := hok.out k x hx
      have hbw : b < wr.heap.size := by omega
      have hr2 : ascR (x :: xs.drop (k + 1)) b0 b1 = r := by rw [← hd]; exact hrest.out
      unfold ascR at hr2
      obtain ⟨kk, a, bb, cc, s⟩ := x
      have hxk : okB kk a bb cc s = true := hxk
      simp only at x0 x1 x2 x3 x4
      clear hx hd hrest hbk hbel h
      by_cases h8 : kk = 8 ∨ kk = 9 ∨ kk = 10
      · have e : ascN b0 b1 ⟨kk, a, bb, cc, s⟩ = none := by simp only [ascN]; rw [if_neg (by omega), if_neg (by omega), if_pos h8]
        rw [e] at hr2
        have hfin : Hid (r = false) := Lib.hid hr2.symm
        clear hr2 e
        rcases h8 with rfl | rfl | rfl
        all_goals
          go_wp2
          go_ret
          exact ⟨by rw [hfin.out]; rfl, HBel.out.alloc hz _⟩
      simp only [not_or] at h8
      obtain ⟨h8, h9, h10⟩ := h8
      by_cases h7 : kk = 7
      · subst h7
        obtain ⟨n, hn, rfl⟩ : ∃ n : Nat, n < 2 ∧ a = (n : Int) := by rcases ok_a01 hxk (Or.inr rfl) with rfl | rfl; exact ⟨0, by omega, rfl⟩; exact ⟨1, by omega, rfl⟩
        rw [asc7 hn] at hr2
        have cn : wr.cell? ⟨w.heap.size, n, none⟩ = some (.bool (bt b0 b1 n)) := (HK.out.cell n).trans (hasC_at hn)
        have qn := HK.out.free n
        have hn1 : (n : Int) < 2 := by omega
        rcases Bool.eq_false_or_eq_true (bt b0 b1 n) with hb1 | hb1
        · rw [hb1] at hr2 cn
          have HR2 := Lib.hid hr2
          have KN := Lib.hid ((hasC_put (v := false) HK.out hn).alloc (.cells #[.int .i64 7, .int .i64 (n : Int), .int .i64 bb, .int .i64 cc, .bool s] 97))
          clear hr2 hb1
          go_wp2
          go_roundw
          case rel => exact ⟨k + 1, _, _, by omega, by go_num, KN.out, (HBel.out.setCell (p := ⟨w.heap.size, n, none⟩) (Nat.le_refl _) _).alloc (by simp; omega) _, HR2⟩
          case measure => simp [intOf]; omega
        · rw [hb1] at hr2 cn
          have hfin : Hid (r = false) := Lib.hid hr2.symm
          clear hr2 hb1
          go_wp2
          go_ret
          exact ⟨by rw [hfin.out]; rfl, HBel.out.alloc hz _⟩
      by_cases h6 : kk = 6
      · subst h6
        obtain ⟨n, hn, rfl⟩ : ∃ n : Nat, n < 2 ∧ a = (n : Int) := by rcases ok_a01 hxk (Or.inl rfl) with rfl | rfl; exact ⟨0, by omega, rfl⟩; exact ⟨1, by omega, rfl⟩
        have HR2 := Lib.hid hr2
        clear hr2
        go_wp2
        obtain ⟨V, hV⟩ : ∃ V, V = wr.alloc (.cells #[.int .i64 6, .int .i64 (n : Int), .int .i64 bb, .int .i64 cc, .bool s] 97) := ⟨_, rfl⟩
        rw [← hV]
        have KV := Lib.hid (show Bk V w.heap.size 4 (hasC b0 b1) by rw [hV]; exact HK.out.alloc _)
        have BV := Lib.hid (show Below w.heap.size w V by rw [hV]; exact HBel.out.alloc hz _)
        have XV := Lib.hid (show Bk V wr.heap.size 97 #[.int .i64 6, .int .i64 (n : Int), .int .i64 bb, .int .i64 cc, .bool s] by rw [hV]; exact Bk.new _ _ _)
        have hgV := KV.out.lt
        have hxV := XV.out.lt
        clear hV
        obtain ⟨wo, rfl⟩ : ∃ wo : World, wo = wr := ⟨_, rfl⟩
        go_loopw [6] (fun kv w2 => ∃ q : Nat, n ≤ q ∧ q ≤ 2 ∧ kv = .int .i64 q ∧ w2 = V ∧ Hid (∀ p, n ≤ p → p < q → bt b0 b1 p = false)) (fun kv _ => 2 - (intOf kv).toNat)
        case atStart => exact ⟨n, Nat.le_refl _, by omega, rfl, rfl, Lib.hid (fun p h1 h2 => by omega)⟩
        case round =>
          obtain ⟨q, hnq, hq2, rfl, rfl, hno⟩ := hrel
          by_cases hq : q < 2
          · have hq1 : (q : Int) < 2 := by omega
            have cq : wr.cell? ⟨w.heap.size, q, none⟩ = some (.bool (bt b0 b1 q)) := (KV.out.cell q).trans (hasC_at hq)
            rcases Bool.eq_false_or_eq_true (bt b0 b1 q) with hbq | hbq
            · have hfin : Hid (r = false) := Lib.hid (by have := HR2.out; rw [asc6_no hnq hq hbq] at this; exact this.symm)
              rw [hbq] at cq
              clear hbq
              go_wp2
              go_ret
              exact ⟨by rw [hfin.out]; rfl, BV.out⟩
            · have HN := Lib.hid (show ∀ p, n ≤ p → p < q + 1 → bt b0 b1 p = false from fun p h1 h2 => by
                by_cases e : p = q
                · subst e; exact hbq
                · exact hno.out p h1 (by omega))
              rw [hbq] at cq
              clear hbq hno
              go_wp2
              go_roundw
              case rel => exact ⟨q + 1, by omega, by omega, by go_num, by first | rfl | trivial, HN⟩
              case measure => simp [intOf]; omega
          · have hqe : q = 2 := by omega
            subst hqe
            have hr3 := HR2.out
            rw [asc6_yes hn hno.out] at hr3
            have HR3 := Lib.hid hr3
            have KN := Lib.hid (hasC_put (v := true) KV.out hn)
            have cn : wr.cell? ⟨w.heap.size, n, none⟩ = some (.bool (bt b0 b1 n)) := (KV.out.cell n).trans (hasC_at hn)
            have qn := KV.out.free n
            have x1 : wr.cell? ⟨wo.heap.size, 1, none⟩ = some (.int .i64 (n : Int)) := XV.out.cell 1
            have hn1 : (n : Int) < 2 := by omega
            clear hr3 hno
            go_wp2
            go_roundw
            case rel => exact ⟨k + 1, _, _, by omega, by go_num, KN.out, BV.out.setCell (p := ⟨w.heap.size, n, none⟩) (Nat.le_refl _) _, HR3⟩
            case measure => simp [intOf]; omega
      · have e : ascN b0 b1 ⟨kk, a, bb, cc, s⟩ = some (b0, b1) := by simp only [ascN]; rw [if_neg h6, if_neg h7, if_neg (by omega)]
        rw [e] at hr2
        have HR2 := Lib.hid hr2
        have e8 : (kk == 8) = false := by simp; omega
        have e9 : (kk == 9) = false := by simp; omega
        have e10 : (kk == 10) = false := by simp; omega
        have e7 : (kk == 7) = false := by simp; omega
        have e6 : (kk == 6) = false := by simp; omega
        clear hr2 e
        go_wp2
        go_roundw
        case rel => exact ⟨k + 1, b0, b1, by omega, by go_num, HK.out.alloc _, HBel.out.alloc hz _, HR2⟩
        case measure => simp [intOf]; omega
    · have hkl : k = xs.length := by omega
      subst hkl
      have hlast : Hid (r = (!b0 && !b1)) := Lib.hid (by
        have := hrest.out
        rw [List.drop_length] at this
        exact this.symm)
      clear hrest hbk hbel
      go_wp2
      obtain ⟨wo, rfl⟩ : ∃ wo : World, wo = wr := ⟨_, rfl⟩
      go_loopw [7] (fun kv w2 => ∃ q : Nat, q ≤ 2 ∧ kv = .int .i64 q ∧ w2 = wo ∧ Hid (∀ p, p < q → bt b0 b1 p = false)) (fun kv _ => 2 - (intOf kv).toNat)
      case atStart => exact ⟨0, by omega, rfl, rfl, Lib.hid (fun p h1 => by omega)⟩
      case round =>
        obtain ⟨q, hq2, rfl, rfl, hno⟩ := hrel
        by_cases hq : q < 2
        · have hq1 : (q : Int) < 2 := by omega
          have cq : wr.cell? ⟨w.heap.size, q, none⟩ = some (.bool (bt b0 b1 q)) := (HK.out.cell q).trans (hasC_at hq)
          rcases Bool.eq_false_or_eq_true (bt b0 b1 q) with hbq | hbq
          · have hfin : Hid (r = false) := Lib.hid (by
              rw [hlast.out]
              match q, hq, hbq with
              | 0, _, h => have h : b0 = true := h; subst h; rfl
              | 1, _, h => have h : b1 = true := h; subst h; cases b0 <;> rfl)
            rw [hbq] at cq
            clear hbq
            go_wp2
            go_ret
            exact ⟨by rw [hfin.out]; rfl, HBel.out⟩
          · have HN := Lib.hid (show ∀ p, p < q + 1 → bt b0 b1 p = false from fun p h2 => by
              by_cases e : p = q
              · subst e; exact hbq
              · exact hno.out p (by omega))
            rw [hbq] at cq
            clear hbq hno
            go_wp2
            go_roundw
            case rel => exact ⟨q + 1, by omega, by go_num, by first | rfl | trivial, HN⟩
            case measure => simp [intOf]; omega
        · have hqe : q = 2 := by omega
          subst hqe
          have hfin : Hid (r = true) := Lib.hid (by
            have h0 : b0 = false := hno.out 0 (by omega)
            have h1 : b1 = false := hno.out 1 (by omega)
            rw [hlast.out, h0, h1]; rfl)
          clear hno
          go_wp2
          go_ret
          exact ⟨by rw [hfin.out]; rfl, HBel.out⟩
theorem sasc_any (h : PgH) (L : Pg) (w : World) (B : Nat) (hP : PgR w B h L) (hB : B ≤ w.heap.size) (SP : PgS L) (r : Bool) (hr : Hid (ascB L = r)) :
    Calls Try.prog 58 #[PgV h L] w fun e w' => e = .returned (.bool r) ∧ Below w.heap.size w w' := by
  obtain ⟨W, hW⟩ : ∃ W, W = w.alloc (.cells #[.slice h.A L.length h.c] 30) := ⟨_, rfl⟩
  have bW : Below w.heap.size w W := by rw [hW]; go_grown
  have KW := Lib.hid (show Bk W w.heap.size 30 #[.slice h.A L.length h.c] by rw [hW]; exact Bk.new _ _ _)
  have BW := Lib.hid bW
  have P0 := Lib.hid (hP.below bW hB)
  have HW := Lib.hid hW
  have hz := bW.size
  have hsl := SP.l
  clear hW bW hP
  rcases Bool.eq_false_or_eq_true (progB L) with hL | hL
  rotate_left
  · have hfin : Hid (r = false) := Lib.hid (by rw [← hr.out]; exact ascB_false hL)
    have HL := Lib.hid hL
    clear hr hL
    go_enter Try.func58, Try.ntmps58
    go_wp2_with fail
    rw [← HW.out]
    refine (sprog_any h.A L h.c W B P0.out (by omega) hsl (Lib.hid SP.e) false HL).mono ?_
    rintro e w1 ⟨rfl, hb⟩
    have B1 := Lib.hid (below_on BW.out hb)
    clear hb
    go_wp2
    go_ret
    exact ⟨by rw [hfin.out]; rfl, B1.out⟩
  have hr1 := hr.out
  rw [ascB_true hL] at hr1
  have HR := Lib.hid hr1
  have HL := Lib.hid hL
  have hl3 : L.length ≤ 3 := by simp only [progB, Bool.and_eq_true, decide_eq_true_eq] at hL; omega
  clear hr hr1 hL
  go_enter Try.func58, Try.ntmps58
  go_wp2_with fail
  rw [← HW.out]
  refine (sprog_any h.A L h.c W B P0.out (by omega) hsl (Lib.hid SP.e) true HL).mono ?_
  rintro e w1 ⟨rfl, hb⟩
  have B1 := Lib.hid (below_on BW.out hb)
  have K1 := Lib.hid (KW.out.below hb KW.out.lt)
  have P1 := Lib.hid (P0.out.below hb (by omega))
  have z1 := hb.size
  clear hb
  go_wp2
  go_loopw [3] (fun iv wr => ∃ k : Nat, k ≤ L.length ∧ iv = .int .i64 k ∧ Below w1.heap.size w1 wr ∧ Hid (((L.drop k).all fun xs => ascR xs false false) = r)) (fun iv _ => L.length - (intOf iv).toNat)
  case atStart => exact ⟨0, Nat.zero_le _, rfl, Below.refl _ _, by simpa using HR⟩
  case round =>
    obtain ⟨k, hk, rfl, hbel, hrest⟩ := hrel
    have hz2 := hbel.size
    have lb1 := K1.out.lt
    have lb : w.heap.size < wr.heap.size := by omega
    by_cases hlt : k < L.length
    · have hi1 : (k : Int) < (L.length : Int) := by omega
      obtain ⟨b, off, xs, Ai, ci, hA, hb, hx, hd, hx0, hlx, hmx, hrow⟩ := (P1.out.below hbel (by omega)).at_ hlt
      obtain ⟨h6, hok⟩ := thr_okb HL.out hx
      have HOK := Lib.hid hok
      have HRow := Lib.hid hrow
      have HD := Lib.hid hd
      have hbw : b < wr.heap.size := by omega
      have HB := Lib.hid (below_on B1.out hbel)
      have HBel := Lib.hid hbel
      have hm2 : ci ≤ 9223372036854775807 := by unfold maxLen at hmx; omega
      have c1 : wr.cell? ⟨w.heap.size, 0, none⟩ = some (.slice (some ⟨b, off, none⟩) L.length h.c) := by rw [← hA]; exact (K1.out.below hbel K1.out.lt).cell 0
      clear hx hd hbel hok hrow hA
      rcases Bool.eq_false_or_eq_true (ascR xs false false) with he | he
      all_goals
        have He := Lib.hid he
        have hr2 := hrest.out
        rw [HD.out, List.all_cons, he] at hr2
        have HR2 := Lib.hid hr2
        clear he hr2 hrest
        go_wp2_with fail
        refine (sascends_any Ai xs ci wr B HRow.out (by omega) h6 HOK _ He).mono ?_
        rintro e w3 ⟨rfl, hb3⟩
        have B3 := Lib.hid (below_on HBel.out hb3)
        have B4 := Lib.hid (below_on HB.out hb3)
        clear hb3 c1
        go_wp2
      · go_roundw
        case rel => exact ⟨k + 1, by omega, by go_num, B3.out, Lib.hid (by have := HR2.out; simpa using this)⟩
        case measure => simp [intOf]; omega
      · go_ret
        exact ⟨by have := HR2.out; rw [← this]; rfl, B4.out⟩
    · have hkl : k = L.length := by omega
      subst hkl
      have hfin : Hid (r = true) := Lib.hid (by
        have := hrest.out
        rw [List.drop_length] at this
        exact this.symm)
      have HB := Lib.hid (below_on B1.out hbel)
      have c1 : wr.cell? ⟨w.heap.size, 0, none⟩ = some (.slice h.A L.length h.c) := (K1.out.below hbel K1.out.lt).cell 0
      clear hrest hbel
      go_wp2
      go_ret
      exact ⟨by rw [hfin.out]; rfl, HB.out⟩
end Go.Proofs.Ytakadejpgndhpaa
