/-
  What the reference model's Guarded comes to.
-/
import Derived.Test.YtiljakbjbiinkaaICts
import Derived.Test.YtiljakbjbiinkaaTwo
import Derived.Test.YtiljakbjbiinkaaReads
import Derived.Deep.RegionHeld3
namespace Go.Proofs.Ytiljakbjbiinkaa
open Go.RowKit Pl Go.BigFrame
set_option maxHeartbeats 8000000
set_option maxRecDepth 100000
set_option linter.unusedVariables false

def pkB (L : Pg) (p : Int) (i k : Nat) : Bool := decide (i < k) && paB p (L.getD i []) (L.getD k [])
theorem any_range_next {g : Nat → Bool} {n : Nat} (h : (List.range n).any g = false) (h2 : g n = false) : (List.range (n + 1)).any g = false := by
  rw [List.range_succ, List.any_append, h]
  simp [h2]
theorem any_range_low {g : Nat → Bool} {n : Nat} (h : ∀ i, i < n → g i = false) : (List.range n).any g = false := by
  rw [List.any_eq_false]
  intro i hi
  rw [h i (List.mem_range.1 hi)]; simp
theorem any_take_next {α : Type} {g : α → Bool} {l : List α} {n : Nat} {x : α} (hx : l[n]? = some x) (h : (l.take n).any g = false) (h2 : g x = false) : (l.take (n + 1)).any g = false := by
  rw [List.take_add_one, hx, List.any_append, h]
  simp [h2]
theorem sshared_any (h : PgH) (L : Pg) (p : Nat) (w : World) (B : Nat) (hP : PgR w B h L) (hB : B ≤ w.heap.size) (hl : L.length ≤ 3) (r : Bool) (hr : Hid (shB L (p : Int) = r)) :
    Calls Try.prog 57 #[PgV h L, .int .i64 p] w fun e w' => e = .returned (.bool r) ∧ Below w.heap.size w w' := by
  obtain ⟨W, hW⟩ : ∃ W, W = w.alloc (.cells #[.slice h.A L.length h.c] 30) := ⟨_, rfl⟩
  have bW : Below w.heap.size w W := by rw [hW]; go_grown
  have KW := Lib.hid (show Bk W w.heap.size 30 #[.slice h.A L.length h.c] by rw [hW]; exact Bk.new _ _ _)
  have BW := Lib.hid bW
  have P0 := Lib.hid (hP.below bW hB)
  have HW := Lib.hid hW
  have hz := bW.size
  clear hW bW hP
  go_enter Try.func57, Try.ntmps57
  go_wp2_with fail
  rw [← HW.out]
  go_wp2
  go_loopw [5] (fun iv wr => ∃ i : Nat, i ≤ L.length ∧ iv = .int .i64 i ∧ Below W.heap.size W wr ∧ Hid ((List.range i).any (fun i => (List.range L.length).any (pkB L p i)) = false)) (fun iv _ => L.length - (intOf iv).toNat)
  case atStart => exact ⟨0, Nat.zero_le _, rfl, Below.refl _ _, Lib.hid rfl⟩
  case round =>
    obtain ⟨i, hi, rfl, hbel, hno⟩ := hrel
    have hzr := hbel.size
    have HB := Lib.hid hbel
    have KR := Lib.hid (KW.out.below hbel KW.out.lt)
    have cb : wr.cell? ⟨w.heap.size, 0, none⟩ = some (.slice h.A L.length h.c) := KR.out.cell 0
    have lb := KR.out.lt
    by_cases hlt : i < L.length
    · have hi1 : (i : Int) < (L.length : Int) := by omega
      obtain ⟨b, off, xs, Ai, ci, hA, hb, hxs, hcr, hlc, hmi, hrow⟩ := pg_at P0.out hlt
      have hbW : b < W.heap.size := by omega
      have hm2 : ci ≤ 9223372036854775807 := by unfold maxLen at hmi; omega
      have hgx : L.getD i [] = xs := getD_some hxs
      have RX := Lib.hid hrow
      have CX := Lib.hid hcr
      clear hxs hcr hrow hbel
      rw [hA] at cb
      obtain ⟨w1, rfl⟩ : ∃ w1 : World, w1 = wr := ⟨_, rfl⟩
      have K0 := Lib.hid (show (List.range (i + 1)).any (pkB L p i) = false from any_range_low fun k hk => by unfold pkB; rw [decide_eq_false (by omega)]; rfl)
      go_wp2
      go_loopw [6] (fun kv wr => ∃ k : Nat, k ≤ L.length ∧ kv = .int .i64 k ∧ i < k ∧ Below W.heap.size W wr ∧ Hid ((List.range k).any (pkB L p i) = false)) (fun kv _ => L.length - (intOf kv).toNat)
      case atStart => exact ⟨i + 1, by omega, by go_num, by omega, HB.out, K0⟩
      case round =>
        obtain ⟨k, hk, rfl, hik, hbel, hnk⟩ := hrel
        clear K0
        have hzr := hbel.size
        have HB1 := Lib.hid hbel
        have KR := Lib.hid (KW.out.below hbel KW.out.lt)
        have cb : wr.cell? ⟨w.heap.size, 0, none⟩ = some (.slice h.A L.length h.c) := KR.out.cell 0
        have lb := KR.out.lt
        rw [hA] at cb
        by_cases hlk : k < L.length
        · have hk1 : (k : Int) < (L.length : Int) := by omega
          obtain ⟨b', off', ys, Ak, ck, hA', -, hys, hcr, hlc', hmk, hrow⟩ := pg_at P0.out hlk
          have e2 : (some ⟨b', off', none⟩ : Option Addr) = some ⟨b, off, none⟩ := hA'.symm.trans hA
          injection e2 with e2
          injection e2 with eb eo _
          subst eb eo
          have hm3 : ck ≤ 9223372036854775807 := by unfold maxLen at hmk; omega
          have hgy : L.getD k [] = ys := getD_some hys
          have RY := Lib.hid hrow
          have CY := Lib.hid hcr
          clear hys hcr hrow hbel hA'
          obtain ⟨w2, rfl⟩ : ∃ w2 : World, w2 = wr := ⟨_, rfl⟩
          go_wp2
          go_loopw [7] (fun av wr => ∃ a : Nat, a ≤ xs.length ∧ av = .int .i64 a ∧ Below W.heap.size W wr ∧ Hid ((xs.take a).any (fun x => ys.any fun y => plZ x == (p : Int) && cnZ x y) = false)) (fun av _ => xs.length - (intOf av).toNat)
          case atStart => exact ⟨0, Nat.zero_le _, rfl, HB1.out, Lib.hid rfl⟩
          case round =>
            obtain ⟨a, ha, rfl, hbel, hna⟩ := hrel
            have hzr := hbel.size
            have HB2 := Lib.hid hbel
            have KR := Lib.hid (KW.out.below hbel KW.out.lt)
            have cb : wr.cell? ⟨w.heap.size, 0, none⟩ = some (.slice h.A L.length h.c) := KR.out.cell 0
            have lb := KR.out.lt
            have hbw : b' < wr.heap.size := by omega
            have r1 : wr.cell? ⟨b', off' + i, none⟩ = some (.slice Ai xs.length ci) := (hbel.cell (p := ⟨b', off' + i, none⟩) hbW).trans CX.out
            have r2 : wr.cell? ⟨b', off' + k, none⟩ = some (.slice Ak ys.length ck) := (hbel.cell (p := ⟨b', off' + k, none⟩) hbW).trans CY.out
            rw [hA] at cb
            by_cases hla : a < xs.length
            · have ha1 : (a : Int) < (xs.length : Int) := by omega
              obtain ⟨b1, o1, sx, hA1, hb1, hsx, -, sx0, sx1, sx2, sx3, sx4⟩ := RX.out.at_ hla
              have hb1W : b1 < W.heap.size := by omega
              have HSX := Lib.hid hsx
              clear hbel hsx
              obtain ⟨w3, rfl⟩ : ∃ w3 : World, w3 = wr := ⟨_, rfl⟩
              go_wp2
              go_loopw [8] (fun dv wr => ∃ d : Nat, d ≤ ys.length ∧ dv = .int .i64 d ∧ Below W.heap.size W wr ∧ Hid ((ys.take d).any (fun y => plZ sx == (p : Int) && cnZ sx y) = false)) (fun dv _ => ys.length - (intOf dv).toNat)
              case atStart => exact ⟨0, Nat.zero_le _, rfl, HB2.out, Lib.hid rfl⟩
              case round =>
                obtain ⟨d, hd, rfl, hbel, hnd⟩ := hrel
                have hzr := hbel.size
                have HB3 := Lib.hid hbel
                have KR := Lib.hid (KW.out.below hbel KW.out.lt)
                have cb : wr.cell? ⟨w.heap.size, 0, none⟩ = some (.slice h.A L.length h.c) := KR.out.cell 0
                have lb := KR.out.lt
                have hbw : b' < wr.heap.size := by omega
                have r1 : wr.cell? ⟨b', off' + i, none⟩ = some (.slice Ai xs.length ci) := (hbel.cell (p := ⟨b', off' + i, none⟩) hbW).trans CX.out
                have r2 : wr.cell? ⟨b', off' + k, none⟩ = some (.slice Ak ys.length ck) := (hbel.cell (p := ⟨b', off' + k, none⟩) hbW).trans CY.out
                rw [hA] at cb
                by_cases hld : d < ys.length
                · have hd1 : (d : Int) < (ys.length : Int) := by omega
                  obtain ⟨b2, o2, sy, hA2, hb2, hsy, -, sy0, sy1, sy2, sy3, sy4⟩ := RY.out.at_ hld
                  have hb2W : b2 < W.heap.size := by omega
                  have hb1w : b1 < wr.heap.size := by omega
                  have hb2w : b2 < wr.heap.size := by omega
                  have x0 := (hbel.cell (p := ⟨b1, o1 + a * 5, none⟩) hb1W).trans sx0
                  have x1 := (hbel.cell (p := ⟨b1, o1 + a * 5 + 1, none⟩) hb1W).trans sx1
                  have x2 := (hbel.cell (p := ⟨b1, o1 + a * 5 + 2, none⟩) hb1W).trans sx2
                  have x3 := (hbel.cell (p := ⟨b1, o1 + a * 5 + 3, none⟩) hb1W).trans sx3
                  have x4 := (hbel.cell (p := ⟨b1, o1 + a * 5 + 4, none⟩) hb1W).trans sx4
                  have y0 := (hbel.cell (p := ⟨b2, o2 + d * 5, none⟩) hb2W).trans sy0
                  have y1 := (hbel.cell (p := ⟨b2, o2 + d * 5 + 1, none⟩) hb2W).trans sy1
                  have y2 := (hbel.cell (p := ⟨b2, o2 + d * 5 + 2, none⟩) hb2W).trans sy2
                  have y3 := (hbel.cell (p := ⟨b2, o2 + d * 5 + 3, none⟩) hb2W).trans sy3
                  have y4 := (hbel.cell (p := ⟨b2, o2 + d * 5 + 4, none⟩) hb2W).trans sy4
                  have HSY := Lib.hid hsy
                  have Hsp := Lib.hid (fun (V : World) => splace_any sx.k sx.a sx.b sx.c sx.s V)
                  have Hsc := Lib.hid (fun (V : World) => sconf_any sx.k sx.a sx.b sx.c sx.s sy.k sy.a sy.b sy.c sy.s V)
                  obtain ⟨pz, hpz⟩ : ∃ pz, placeZ sx.k sx.a sx.b sx.c sx.s = pz := ⟨_, rfl⟩
                  obtain ⟨cz, hcz⟩ : ∃ cz, conB sx.k sx.a sx.b sx.c sx.s sy.k sy.a sy.b sy.c sy.s = cz := ⟨_, rfl⟩
                  rw [hpz] at Hsp
                  rw [hcz] at Hsc
                  have HN := Lib.hid (show (pz == (p : Int) && cz) = false → (ys.take (d + 1)).any (fun y => plZ sx == (p : Int) && cnZ sx y) = false from fun hh => any_take_next HSY.out hnd.out (by unfold plZ cnZ; rw [hpz, hcz]; exact hh))
                  have HT := Lib.hid (show (pz == (p : Int) && cz) = true → true = r from fun hh => by
                    rw [← hr.out]
                    symm
                    unfold shB
                    rw [List.any_eq_true]
                    refine ⟨i, List.mem_range.2 hlt, ?_⟩
                    rw [List.any_eq_true]
                    refine ⟨k, List.mem_range.2 hlk, ?_⟩
                    rw [hgx, hgy, decide_eq_true hik, Bool.true_and]
                    unfold paB
                    rw [List.any_eq_true]
                    refine ⟨sx, List.mem_of_getElem? HSX.out, ?_⟩
                    rw [List.any_eq_true]
                    refine ⟨sy, List.mem_of_getElem? HSY.out, ?_⟩
                    unfold plZ cnZ
                    rw [hpz, hcz]; exact hh)
                  subst hA1 hA2
                  have gcb := Ws.same (bs := []) (w0 := wr) (by omega) cb
                  have gr1 := Ws.same (bs := []) (w0 := wr) (by omega) r1
                  have gr2 := Ws.same (bs := []) (w0 := wr) (by omega) r2
                  have gx0 := Ws.same (bs := []) (w0 := wr) (by omega) x0
                  have gx1 := Ws.same (bs := []) (w0 := wr) (by omega) x1
                  have gx2 := Ws.same (bs := []) (w0 := wr) (by omega) x2
                  have gx3 := Ws.same (bs := []) (w0 := wr) (by omega) x3
                  have gx4 := Ws.same (bs := []) (w0 := wr) (by omega) x4
                  have gy0 := Ws.same (bs := []) (w0 := wr) (by omega) y0
                  have gy1 := Ws.same (bs := []) (w0 := wr) (by omega) y1
                  have gy2 := Ws.same (bs := []) (w0 := wr) (by omega) y2
                  have gy3 := Ws.same (bs := []) (w0 := wr) (by omega) y3
                  have gy4 := Ws.same (bs := []) (w0 := wr) (by omega) y4
                  haveI hne := Nonempty.intro (Ws.mk wr.drew ((fr_none wr).drew))
                  have HS := Lib.hid ((fr_none wr).drew)
                  clear hsy hpz hcz hbel hnd sx0 sx1 sx2 sx3 sx4 sy0 sy1 sy2 sy3 sy4 x0 x1 x2 x3 x4 y0 y1 y2 y3 y4
                  obtain ⟨ez, hez⟩ : ∃ ez, (pz == (p : Int)) = ez := ⟨_, rfl⟩
                  rw [hez] at HN HT
                  cases ez
                  · go_wp2_with fail
                    refine region_in (by kernel_rfl) HS.out ?_
                    repeat (go_big_quiet_step ((first | (go_at_call 121; exact call_in (Hsp.out _)) | (go_at_call 122; exact call_in (Hsc.out _)))))
                    refine wpQuiet_nil ?_
                    rintro w9 ⟨⟨_, hw9⟩, rfl⟩
                    have hB9 := Lib.hid (HB3.out.trans (hw9.below.mono hzr))
                    clear cb r1 r2 gcb gr1 gr2 gx0 gx1 gx2 gx3 gx4 gy0 gy1 gy2 gy3 gy4
                    go_wp2
                    go_roundw
                    case rel => exact ⟨d + 1, by omega, by go_num, hB9.out, Lib.hid (HN.out rfl)⟩
                    case measure => simp [intOf]; omega
                  · cases cz
                    all_goals
                      go_wp2_with fail
                      refine region_in (by kernel_rfl) HS.out ?_
                      repeat (go_big_quiet_step ((first | (go_at_call 121; exact call_in (Hsp.out _)) | (go_at_call 122; exact call_in (Hsc.out _)))))
                      refine wpQuiet_nil ?_
                      rintro w9 ⟨⟨_, hw9⟩, rfl⟩
                      have hB9 := Lib.hid (HB3.out.trans (hw9.below.mono hzr))
                      clear cb r1 r2 gcb gr1 gr2 gx0 gx1 gx2 gx3 gx4 gy0 gy1 gy2 gy3 gy4
                      go_wp2
                    · go_roundw
                      case rel => exact ⟨d + 1, by omega, by go_num, hB9.out, Lib.hid (HN.out rfl)⟩
                      case measure => simp [intOf]; omega
                    · go_ret
                      exact ⟨by rw [← HT.out rfl]; rfl, BW.out.trans (hB9.out.mono hz)⟩
                · have hd1 : ¬ (d : Int) < (ys.length : Int) := by omega
                  have hna2 := Lib.hid (any_take_next (g := fun x => ys.any fun y => plZ x == (p : Int) && cnZ x y) HSX.out hna.out (by
                    have := hnd.out
                    rw [List.take_of_length_le (by omega)] at this
                    exact this))
                  clear hbel
                  go_wp2
                  go_roundw
                  case rel => exact ⟨a + 1, by omega, by go_num, HB3.out, hna2⟩
                  case measure => simp [intOf]; omega
            · have ha1 : ¬ (a : Int) < (xs.length : Int) := by omega
              have hnk2 := Lib.hid (any_range_next hnk.out (show pkB L p i k = false by
                unfold pkB
                rw [hgx, hgy]
                have := hna.out
                rw [List.take_of_length_le (by omega)] at this
                unfold paB
                rw [this, Bool.and_false]))
              clear hbel
              go_wp2
              go_roundw
              case rel => exact ⟨k + 1, by omega, by go_num, by omega, HB2.out, hnk2⟩
              case measure => simp [intOf]; omega
        · have hk1 : ¬ (k : Int) < (L.length : Int) := by omega
          have hno2 := Lib.hid (any_range_next (g := fun i => (List.range L.length).any (pkB L p i)) hno.out (by
            have := hnk.out
            rw [show k = L.length by omega] at this
            exact this))
          clear hbel
          go_wp2
          go_roundw
          case rel => exact ⟨i + 1, by omega, by go_num, HB1.out, hno2⟩
          case measure => simp [intOf]; omega
    · have hi1 : ¬ (i : Int) < (L.length : Int) := by omega
      have hlast : Hid (r = false) := Lib.hid (by
        rw [← hr.out]
        have := hno.out
        rw [show i = L.length by omega] at this
        exact this)
      clear hbel
      go_wp2
      go_ret
      exact ⟨by rw [hlast.out]; rfl, BW.out.trans (HB.out.mono hz)⟩
end Go.Proofs.Ytiljakbjbiinkaa
namespace Go.Proofs.Ytiljakbjbiinkaa
open Go.RowKit Pl Go.BigFrame
set_option maxHeartbeats 8000000
set_option maxRecDepth 100000
set_option linter.unusedVariables false

theorem sgud_any (h : PgH) (L : Pg) (w : World) (B : Nat) (hP : PgR w B h L) (hB : B ≤ w.heap.size) (SP : PgS L) (r : Bool) (hr : Hid (gdB L = r)) :
    Calls Try.prog 21 #[PgV h L] w fun e w' => e = .returned (.bool r) ∧ Below w.heap.size w w' := by
  obtain ⟨W, hW⟩ : ∃ W, W = w.alloc (.cells #[.slice h.A L.length h.c] 30) := ⟨_, rfl⟩
  have bW : Below w.heap.size w W := by rw [hW]; go_grown
  have KW := Lib.hid (show Bk W w.heap.size 30 #[.slice h.A L.length h.c] by rw [hW]; exact Bk.new _ _ _)
  have BW := Lib.hid bW
  have P0 := Lib.hid (hP.below bW hB)
  have HW := Lib.hid hW
  have hz := bW.size
  have c0 : W.cell? ⟨w.heap.size, 0, none⟩ = some (.slice h.A L.length h.c) := KW.out.cell 0
  have l0 := KW.out.lt
  clear hW bW hP
  have G := sgua_any h L W B P0.out (by omega) SP
  have hfin := hr.out
  unfold gdB at hfin
  unfold guE at G
  rcases Bool.eq_false_or_eq_true (progB L) with hL | hL
  rotate_left
  · rw [hL, if_neg (by simp)] at G
    rw [hL, Bool.false_and] at hfin
    have HG := Lib.hid G
    have HF := Lib.hid hfin
    clear G hfin hr
    go_enter Try.func21, Try.ntmps21
    go_wp2_with fail
    rw [← HW.out]
    go_wp2_with fail
    refine HG.out.mono ?_
    rintro e w1 ⟨⟨A, c⟩, rfl, hb, -, -⟩
    have B1 := Lib.hid (below_on BW.out hb)
    clear hb c0
    go_wp2
    go_ret
    exact ⟨by rw [← HF.out]; rfl, B1.out⟩
  · rw [hL, if_pos rfl] at G
    rw [hL, Bool.true_and] at hfin
    have l3 := (prog_len hL).2
    have HG := Lib.hid G
    have HF := Lib.hid hfin
    clear G hfin hr
    obtain ⟨E, hE⟩ : ∃ E, matR 3 2 (guM L) = E := ⟨_, rfl⟩
    rw [hE] at HG
    have hEl : E.length = 3 := by rw [← hE]; simp
    have HE := Lib.hid hE
    clear hE
    go_enter Try.func21, Try.ntmps21
    go_wp2_with fail
    rw [← HW.out]
    go_wp2_with fail
    refine HG.out.mono ?_
    rintro e w1 ⟨k, rfl, hb, hsz, hbo⟩
    rw [← HE.out] at hbo
    obtain ⟨g, D, C, hkA, hg, hcells⟩ := gu_cells hbo
    have B1 := Lib.hid (below_on BW.out hb)
    have K1 := Lib.hid (KW.out.below hb KW.out.lt)
    have P1 := Lib.hid (P0.out.below hb (by omega))
    have HC := Lib.hid hcells
    have hV : (BssV k E : Value) = .slice (some ⟨g, 0, none⟩) 3 k.c := by unfold BssV; rw [hkA, hEl]
    rw [hV]
    clear hb c0 hbo hcells HG hV hkA
    go_wp2
    go_loopw [5] (fun iv wr => ∃ p : Nat, p ≤ 3 ∧ iv = .int .i64 p ∧ Below w1.heap.size w1 wr ∧ Hid (∀ q, q < p → (!(cstB L (q : Int) && !(guM L q 0 || guM L q 1))) = true)) (fun iv _ => 3 - (intOf iv).toNat)
    case atStart => exact ⟨0, by omega, rfl, Below.refl _ _, Lib.hid fun q hq => absurd hq (by omega)⟩
    case round =>
      obtain ⟨p, hp, rfl, hbel, hgood⟩ := hrel
      have hzr := hbel.size
      have HB := Lib.hid hbel
      by_cases hlt : p < 3
      · have hp1 : (p : Int) < 3 := by omega
        obtain ⟨hc0, hd, hcl⟩ := HC.out p hlt
        have cg : wr.cell? ⟨g, p, none⟩ = some (.slice (some ⟨D p, 0, none⟩) 2 (C p)) := (hbel.cell (p := ⟨g, p, none⟩) hg).trans hc0
        have KR := Lib.hid (K1.out.below hbel K1.out.lt)
        have PR := Lib.hid (P1.out.below hbel (by omega))
        have hgw : g < wr.heap.size := by omega
        have hdw : D p < wr.heap.size := by omega
        have MQ := Lib.hid (show ∀ q, q < 2 → wr.cell? ⟨D p, q, none⟩ = some (.bool (guM L p q)) from fun q hq => (hbel.cell (p := ⟨D p, q, none⟩) hd).trans (hcl q hq))
        obtain ⟨c, hc⟩ : ∃ c, shB L (p : Int) = c := ⟨_, rfl⟩
        have HCs := Lib.hid hc
        have HCc := Lib.hid (show cstB L (p : Int) = c by rw [← sh_eq l3 (by omega)]; exact hc)
        obtain ⟨a, ha⟩ : ∃ a, (guM L p 0 || guM L p 1) = a := ⟨_, rfl⟩
        have HA := Lib.hid ha
        have HN := Lib.hid (show (!(c && !a)) = true → ∀ q, q < p + 1 → (!(cstB L (q : Int) && !(guM L q 0 || guM L q 1))) = true from fun hh q hq => by
          by_cases e : q = p
          · subst e; rw [HCc.out, HA.out]; exact hh
          · exact hgood.out q (by omega))
        have HX := Lib.hid (show (!(c && !a)) = false → false = r from fun hh => by
          rw [← HF.out, eq_comm, List.all_eq_false]
          refine ⟨p, List.mem_range.2 hlt, ?_⟩
          rw [HCc.out, HA.out, hh]; simp)
        clear hc ha hbel hgood hc0 hcl
        go_wp2
        go_loop [6, 7] (fun sv kv => ∃ q : Nat, q ≤ 2 ∧ kv = .int .i64 q ∧ sv = .bool ((List.range q).any (guM L p))) (fun _ kv => 2 - (intOf kv).toNat)
        case atStart => exact ⟨0, by omega, rfl, rfl⟩
        case round =>
          obtain ⟨q, hq, rfl, rfl⟩ := hrel
          by_cases hlq : q < 2
          · have mq := MQ.out q hlq
            have hq1 : (q : Int) < 2 := by omega
            obtain ⟨s, hs⟩ : ∃ s, (List.range q).any (guM L p) = s := ⟨_, rfl⟩
            obtain ⟨mv, hmv⟩ : ∃ mv, guM L p q = mv := ⟨_, rfl⟩
            have hnx := Lib.hid (show (List.range (q + 1)).any (guM L p) = (s || mv) by rw [List.range_succ, List.any_append, hs]; simp [hmv])
            rw [hmv] at mq
            rw [hs]
            clear hs hmv
            cases s <;> cases mv
            all_goals
              go_wp2
              go_round
              case rel => exact ⟨q + 1, by omega, by go_num, by rw [hnx.out]; rfl⟩
              case measure => simp [intOf]; omega
          · have hq2 : q = 2 := by omega
            subst hq2
            have e2 : (List.range 2).any (guM L p) = a := by rw [← HA.out]; simp [List.range_succ]
            rw [e2]
            clear e2
            have cb : wr.cell? ⟨w.heap.size, 0, none⟩ = some (.slice h.A L.length h.c) := KR.out.cell 0
            have lb := KR.out.lt
            cases c <;> cases a
            all_goals
              go_wp2_with fail
              refine (sshared_any h L p wr B PR.out (by omega) l3 _ HCs).mono ?_
              rintro e w2 ⟨rfl, hb2⟩
              have H2 := Lib.hid (below_on HB.out hb2)
              clear hb2 cb cg
              go_wp2
            · go_roundw
              case rel => exact ⟨p + 1, by omega, by go_num, H2.out, Lib.hid (HN.out rfl)⟩
              case measure => simp [intOf]; omega
            · go_roundw
              case rel => exact ⟨p + 1, by omega, by go_num, H2.out, Lib.hid (HN.out rfl)⟩
              case measure => simp [intOf]; omega
            · go_ret
              exact ⟨by rw [← HX.out rfl]; rfl, B1.out.trans (H2.out.mono (by omega))⟩
            · go_roundw
              case rel => exact ⟨p + 1, by omega, by go_num, H2.out, Lib.hid (HN.out rfl)⟩
              case measure => simp [intOf]; omega
      · have hp1 : ¬ (p : Int) < 3 := by omega
        have hlast : Hid (r = true) := Lib.hid (by
          rw [← HF.out, List.all_eq_true]
          intro q hq
          have hq3 : q < 3 := List.mem_range.1 hq
          exact hgood.out q (by omega))
        clear hbel
        go_wp2
        go_ret
        exact ⟨by rw [hlast.out]; rfl, B1.out.trans (HB.out.mono (by omega))⟩
end Go.Proofs.Ytiljakbjbiinkaa
