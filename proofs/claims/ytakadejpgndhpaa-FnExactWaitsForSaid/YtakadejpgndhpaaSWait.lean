/-
  What the reference model's WaitsFor comes to.
-/
import Derived.Test.YtakadejpgndhpaaIWait
import Derived.Deep.RegionHeld3
import Derived.Deep.QuietTactic
namespace Go.Proofs.Ytakadejpgndhpaa
open Go.RowKit Pl
set_option maxHeartbeats 4000000
set_option maxRecDepth 100000
set_option linter.unusedVariables false

theorem own_keep6 {w w' : World} {base g n cap s : Nat} {t : TypeId} {vs : List Value} (h : w.ownsRow base t s (.slice (some ⟨g, 0, none⟩) n cap) n vs) (hk : w'.heap[g]? = w.heap[g]?) : w'.ownsRow base t s (.slice (some ⟨g, 0, none⟩) n cap) n vs := by
  obtain ⟨h0, h1⟩ := h
  refine ⟨h0, ?_⟩
  rcases h1 with ⟨h1, h2⟩ | ⟨g', cap', cur, e1, e2, e3, rest⟩
  · cases h1
  · refine Or.inr ⟨g', cap', cur, e1, e2, ?_, rest⟩
    injection e1 with e4
    injection e4 with e4
    injection e4 with e5
    subst e5
    exact hk.trans e3
theorem wow_done {L : Pg} {f : Nat → Nat} {t : Nat} {xs : List Sm} (hx : L[t]? = some xs) (G : f (3 + t) ≤ xs.length) (h : ¬ (f (3 + t) : Int) < (xs.length : Int)) : wowF L f t = -1 := by
  unfold wowF
  rw [getD_some hx, if_pos (by omega)]
theorem wow_lock {L : Pg} {f : Nat → Nat} {t n : Nat} {xs : List Sm} {x : Sm} (hx : L[t]? = some xs) (hs : xs[f (3 + t)]? = some x) (h : f (3 + t) < xs.length) (h6 : x.k = 6) (ha : x.a = (n : Int)) : wowF L f t = (f (18 + n) : Int) - 1 := by
  have hsm : smAt L t (f (3 + t)) = x := by unfold smAt; rw [getD_some hx]; exact getD_some hs
  unfold wowF
  rw [getD_some hx, if_neg (by omega), hsm, if_pos h6, ha, Int.toNat_natCast]
theorem wow_other {L : Pg} {f : Nat → Nat} {t : Nat} {xs : List Sm} {x : Sm} (hx : L[t]? = some xs) (hs : xs[f (3 + t)]? = some x) (h : f (3 + t) < xs.length) (h6 : ¬ x.k = 6) : wowF L f t = -1 := by
  have hsm : smAt L t (f (3 + t)) = x := by unfold smAt; rw [getD_some hx]; exact getD_some hs
  unfold wowF
  rw [getD_some hx, if_neg (by omega), hsm, if_neg h6]
theorem swaits_any (h : PgH) (L : Pg) (k : StaH) (s : Sta) (w : World) (B : Nat) (hP : PgR w B h L) (hS : StaR w B k s) (hB : B ≤ w.heap.size) (SP : PgS L) (LS : StaS s) :
    Calls Try.prog 44 #[PgV h L, StaV k s] w (AnsIl1 w (waitE L s)) := by
  obtain ⟨W, hW⟩ : ∃ W, W = ((w.alloc (.cells #[.slice h.A L.length h.c] 30)).alloc (.cells #[.slice k.A0 s.f0.length k.c0, .slice k.A1 s.f1.length k.c1, .slice k.A2 s.f2.length k.c2, .slice k.A3 s.f3.length k.c3, .slice k.A4 s.f4.length k.c4] 56)).alloc (.cells #[] 3) := ⟨_, rfl⟩
  have bW : Below w.heap.size w W := by rw [hW]; go_grown
  have sW : W.heap.size = w.heap.size + 1 + 1 + 1 := by rw [hW]; simp
  have k0 : Bk W w.heap.size 30 #[.slice h.A L.length h.c] := by rw [hW]; exact ((Bk.new w _ _).alloc _).alloc _
  have k1 : Bk W (w.heap.size + 1) 56 #[.slice k.A0 s.f0.length k.c0, .slice k.A1 s.f1.length k.c1, .slice k.A2 s.f2.length k.c2, .slice k.A3 s.f3.length k.c3, .slice k.A4 s.f4.length k.c4] := by
    rw [hW]; have := (Bk.new (w.alloc (.cells #[.slice h.A L.length h.c] 30)) #[.slice k.A0 s.f0.length k.c0, .slice k.A1 s.f1.length k.c1, .slice k.A2 s.f2.length k.c2, .slice k.A3 s.f3.length k.c3, .slice k.A4 s.f4.length k.c4] 56).alloc (.cells #[] 3)
    rwa [World.size_alloc] at this
  have o0 : W.ownsRow (w.heap.size + 1 + 1) 3 1 (.slice (some ⟨w.heap.size + 1 + 1, 0, none⟩) 0 0) 0 (ints []) := by
    rw [hW]
    obtain ⟨V, hV⟩ : ∃ V, V = (w.alloc (.cells #[.slice h.A L.length h.c] 30)).alloc (.cells #[.slice k.A0 s.f0.length k.c0, .slice k.A1 s.f1.length k.c1, .slice k.A2 s.f2.length k.c2, .slice k.A3 s.f3.length k.c3, .slice k.A4 s.f4.length k.c4] 56) := ⟨_, rfl⟩
    rw [← hV]
    have e : w.heap.size + 1 + 1 = V.heap.size := by rw [hV]; simp
    rw [e]
    exact World.ownsRow_made V #[] 0 (Nat.le_refl _) (by decide) (by simp)
  have P0 := Lib.hid (hP.below bW hB)
  have Q0 := Lib.hid (hS.below bW hB)
  have K0 := Lib.hid k0
  have K1 := Lib.hid k1
  have B0 := Lib.hid bW
  have O0 := Lib.hid o0
  have z0 := bW.size
  have HW := Lib.hid hW
  have sWa := Nat.le_of_eq sW
  have sWb := Nat.le_of_eq sW.symm
  clear hW bW k0 k1 hP hS sW o0
  rcases Bool.eq_false_or_eq_true (stB L s) with hst | hst
  rotate_left
  · have eE : waitE L s = [] := by unfold waitE; rw [hst]; rfl
    have HST := Lib.hid hst
    rw [eE]
    clear hst eE
    go_enter Try.func44, Try.ntmps44
    go_wp2_with fail
    rw [← HW.out]
    refine (sstok_any h L k s W B P0.out Q0.out (by omega) SP LS false HST).mono ?_
    rintro e w1 ⟨rfl, hb⟩
    have B1 := Lib.hid (below_on B0.out hb)
    clear hb
    go_wp2
    go_ret
    exact ⟨⟨some ⟨w.heap.size + 1 + 1, 0, none⟩, 0⟩, rfl, B1.out, B1.out.size, ⟨OwnVs.nil _ _ _ _ _⟩⟩
  have P := stB_parts hst
  have p31 := P.n1
  have p32 := P.n3
  have hLp := P.prog
  have ES := staF_wd P
  have IV := inv_wd P
  have HST := Lib.hid hst
  have eE : waitE L s = waitsL L (wdF L s) := by unfold waitE; rw [hst]; rfl
  rw [eE]
  generalize wdF L s = f at ES IV
  subst ES
  obtain ⟨a0, a1, a2, a3, a4⟩ := sta_len L f
  have A0 := Lib.hid a0
  have A3 := Lib.hid a3
  obtain ⟨Z, hZ⟩ : ∃ Z, waitsL L f = Z := ⟨_, rfl⟩
  have hZl : Z.length = L.length := by rw [← hZ, waitsL_length]
  have HZ := Lib.hid (show ∀ t, t < L.length → ints (Z.take (t + 1)) = ints (Z.take t) ++ [.int .i64 (wowF L f t)] from fun t ht => by rw [← hZ]; exact waitsL_snoc ht)
  rw [hZ]
  clear hst P eE hZ a0 a1 a2 a3 a4
  obtain ⟨i0, hi, iz0, iz1, iz2⟩ := info_parts Try.info3
  go_enter Try.func44, Try.ntmps44
  go_wp2_with fail
  rw [← HW.out]
  refine (sstok_any h L k (staF L f) W B P0.out Q0.out (by omega) SP LS true HST).mono ?_
  rintro e w1 ⟨rfl, hb⟩
  have B1 := Lib.hid (below_on B0.out hb)
  have K01 := Lib.hid (K0.out.below hb K0.out.lt)
  have K11 := Lib.hid (K1.out.below hb K1.out.lt)
  have P1 := Lib.hid (P0.out.below hb (by omega))
  have Q1 := Lib.hid (Q0.out.below hb (by omega))
  have O1 := Lib.hid (own_keep6 O0.out (hb.block (w.heap.size + 1 + 1) (by omega)))
  have z1 := hb.size
  clear hb
  obtain ⟨M, hM⟩ : ∃ M, M = w.heap.size + 1 + 1 := ⟨_, rfl⟩
  rw [← hM] at O1
  have hMa := Nat.le_of_eq hM
  have hMb := Nat.le_of_eq hM.symm
  go_wp2
  rw [← hM]
  clear hM
  go_loopw [5, 6] (fun ov iv wr => ∃ t g cap : Nat, t ≤ L.length ∧ iv = .int .i64 t ∧ ov = .slice (some ⟨g, 0, none⟩) t cap ∧ M ≤ g ∧ wr.ownsRow M 3 1 (.slice (some ⟨g, 0, none⟩) t cap) t (ints (Z.take t)) ∧ Below M w1 wr) (fun _ iv _ => L.length - (intOf iv).toNat)
  case atStart => exact ⟨0, M, 0, Nat.zero_le _, rfl, rfl, Nat.le_refl _, O1.out, Below.refl _ _⟩
  case round =>
    obtain ⟨t, g, cap, ht, rfl, rfl, hgg, hown, hbel⟩ := hrel
    have hz := hbel.size
    have K0r := Lib.hid (K01.out.below hbel (by omega))
    have K1r := Lib.hid (K11.out.below hbel (by omega))
    have Hown := Lib.hid hown
    have Hb := Lib.hid hbel
    clear hown
    have hzM : M ≤ wr.heap.size := by omega
    by_cases hlt : t < L.length
    · have hi1 : (t : Int) < (L.length : Int) := by omega
      have PR := P1.out.below hbel (by omega)
      have QR := Q1.out.below hbel (by omega)
      obtain ⟨b, off, xs, Ai, ci, hA, hb, hx, hc, -, hmi, hrow⟩ := pg_at PR hlt
      obtain ⟨b2, off2, y, hA2, hb2, hy, -, hc2⟩ := QR.r0.int_ (k := t) (by rw [A0.out]; exact hlt)
      have hyv : y = (f (3 + t) : Int) := by
        have e : fL 0 = 0 := rfl
        have hy2 : (staF L f).f0[t]? = some ((f (3 + t) : Int) + fL 0) := fldI_at hlt
        rw [hy2] at hy
        injection hy with hy
        rw [← hy, e, Int.add_zero]
      have hle := IV.good.at_ t xs hx
      have hti2 : (t : Int) < ((staF L f).f0.length : Int) := by rw [A0.out]; omega
      have e0 : wr.cell? ⟨w.heap.size, 0, none⟩ = some (.slice (some ⟨b, off, none⟩) L.length h.c) := by rw [← hA]; exact K0r.out.cell 0
      have e1 : wr.cell? ⟨w.heap.size + 1, 0, none⟩ = some (.slice (some ⟨b2, off2, none⟩) (staF L f).f0.length k.c0) := by rw [← hA2]; exact K1r.out.cell 0
      have l0 := K0r.out.lt
      have l1 := K1r.out.lt
      have hbw : b < wr.heap.size := by omega
      have hb2w : b2 < wr.heap.size := by omega
      have hm2 : ci ≤ 9223372036854775807 := by unfold maxLen at hmi; omega
      have HX := Lib.hid hx
      clear hy hA hA2 hx
      by_cases hyx : y < (xs.length : Int)
      · subst hyv
        have hyn : f (3 + t) < xs.length := by omega
        obtain ⟨b5, off5, x, hA5, hb5, hx5, -, c0, c1, c2, c3, c4⟩ := hrow.at_ hyn
        subst hA5
        have hb5w : b5 < wr.heap.size := by omega
        have hxk := (prog_thr hLp HX.out).2 _ _ hx5
        have HX5 := Lib.hid hx5
        clear hx5 hrow
        by_cases h6 : x.k = 6
        · obtain ⟨n, hn, ha⟩ := ok_lock hxk (Or.inl h6)
          have hw := Lib.hid (wow_lock HX.out HX5.out hyn h6 ha)
          obtain ⟨b7, off7, z, hA7, hb7, hz7, -, hc7⟩ := QR.r3.int_ (k := n) (by rw [A3.out]; exact hn)
          have hzv : z = (f (18 + n) : Int) - 1 := by
            have e : fL 3 = -1 := rfl
            have hz2 : (staF L f).f3[n]? = some ((f (18 + n) : Int) + fL 3) := fldI_at hn
            rw [hz2] at hz7
            injection hz7 with hz7
            rw [← hz7, e]; omega
          have HZt := Lib.hid (show ints (Z.take (t + 1)) = ints (Z.take t) ++ [.int .i64 z] by rw [HZ.out t hlt, hw.out, hzv])
          have e3 : wr.cell? ⟨w.heap.size + 1, 3, none⟩ = some (.slice (some ⟨b7, off7, none⟩) (staF L f).f3.length k.c3) := by rw [← hA7]; exact K1r.out.cell 3
          have hb7w : b7 < wr.heap.size := by omega
          have hti3 : (n : Int) < ((staF L f).f3.length : Int) := by rw [A3.out]; omega
          rw [h6] at c0
          rw [ha] at c1
          clear hz7 hA7 hzv hle hxk h6 ha PR QR hbel
          go_wp2_with fail
          go_quiet (fail)
          go_wp2_with fail
          go_quiet (fail)
          go_wp2_with (at_builtin; refine wpList_append_own _ rfl (.tmp 66) (.tmp 68) 51 rfl M 3 i0 _ 1 8 Try.underlying51 hi iz0 iz1 iz2 rfl (by decide) _ t _ rfl (Hown.out.alloc _) ⟨_, 0, none⟩ 1 1 [.int .i64 _] rfl rfl (cell1_new _ _ _) (by intro u hu; simp at hu; subst hu; rfl) (by unfold maxLen; omega) (by omega) (by simp; omega) ?_; intro v' w3 own3 grow3 _; obtain ⟨g3, cap3, rfl, hg3, hlt3⟩ := own3.form (by omega); have Own3 := Lib.hid own3; have B3 := Lib.hid (((below_drewN Hb.out _).alloc hzM _).grown grow3 (by simp; omega) (by intro q hq; cases hq; exact hgg)); clear own3 grow3)
          go_roundw
          case rel => exact ⟨t + 1, g3, cap3, by omega, by go_num, rfl, hg3, by rw [HZt.out]; exact Own3.out, B3.out⟩
          case measure => simp [intOf]; omega
        · have hw := Lib.hid (wow_other HX.out HX5.out hyn h6)
          have HZt := Lib.hid (show ints (Z.take (t + 1)) = ints (Z.take t) ++ [.int .i64 (-1)] by rw [HZ.out t hlt, hw.out])
          obtain ⟨kk, kr⟩ : ∃ kk, x.k = kk := ⟨_, rfl⟩
          rw [kr] at c0 h6
          clear hle hxk PR QR hbel kr hw HX5
          go_wp2_with fail
          go_quiet (fail)
          go_wp2_with (at_builtin; refine wpList_append_own _ rfl (.tmp 66) (.tmp 68) 51 rfl M 3 i0 _ 1 8 Try.underlying51 hi iz0 iz1 iz2 rfl (by decide) _ t _ rfl (Hown.out.alloc _) ⟨_, 0, none⟩ 1 1 [.int .i64 _] rfl rfl (cell1_new _ _ _) (by intro u hu; simp at hu; subst hu; rfl) (by unfold maxLen; omega) (by omega) (by simp; omega) ?_; intro v' w3 own3 grow3 _; obtain ⟨g3, cap3, rfl, hg3, hlt3⟩ := own3.form (by omega); have Own3 := Lib.hid own3; have B3 := Lib.hid (((below_drewN Hb.out _).alloc hzM _).grown grow3 (by simp; omega) (by intro q hq; cases hq; exact hgg)); clear own3 grow3)
          go_roundw
          case rel => exact ⟨t + 1, g3, cap3, by omega, by go_num, rfl, hg3, by rw [HZt.out]; exact Own3.out, B3.out⟩
          case measure => simp [intOf]; omega
      · have hw := Lib.hid (wow_done HX.out hle (by rw [← hyv]; exact hyx))
        have HZt := Lib.hid (show ints (Z.take (t + 1)) = ints (Z.take t) ++ [.int .i64 (-1)] by rw [HZ.out t hlt, hw.out])
        have hyd : decide (y < (xs.length : Int)) = false := decide_eq_false hyx
        clear hle PR QR hbel hrow hyv
        go_wp2_with fail
        go_quiet (fail)
        go_wp2_with (at_builtin; refine wpList_append_own _ rfl (.tmp 66) (.tmp 68) 51 rfl M 3 i0 _ 1 8 Try.underlying51 hi iz0 iz1 iz2 rfl (by decide) _ t _ rfl (Hown.out.alloc _) ⟨_, 0, none⟩ 1 1 [.int .i64 _] rfl rfl (cell1_new _ _ _) (by intro u hu; simp at hu; subst hu; rfl) (by unfold maxLen; omega) (by omega) (by simp; omega) ?_; intro v' w3 own3 grow3 _; obtain ⟨g3, cap3, rfl, hg3, hlt3⟩ := own3.form (by omega); have Own3 := Lib.hid own3; have B3 := Lib.hid (((below_drewN Hb.out _).alloc hzM _).grown grow3 (by simp; omega) (by intro q hq; cases hq; exact hgg)); clear own3 grow3)
        go_roundw
        case rel => exact ⟨t + 1, g3, cap3, by omega, by go_num, rfl, hg3, by rw [HZt.out]; exact Own3.out, B3.out⟩
        case measure => simp [intOf]; omega
    · have htl : t = Z.length := by omega
      have cp : wr.cell? ⟨w.heap.size, 0, none⟩ = some (.slice h.A L.length h.c) := K0r.out.cell 0
      have lp := K0r.out.lt
      have ht2 : ¬ (t : Int) < (L.length : Int) := by omega
      have hof := Hown.out
      rw [htl, List.take_length] at hof
      have HF := Lib.hid hof
      have hfb := Lib.hid (B1.out.trans (hbel.mono (by omega)))
      have htl2 := Lib.hid htl
      clear hbel hof htl
      go_wp2
      go_ret
      exact ⟨⟨some ⟨g, 0, none⟩, cap⟩, by show _ = Ending.returned (.slice _ Z.length cap); rw [← htl2.out]; rfl, hfb.out, hfb.out.size, ⟨(own_vs HF.out rfl).more (by omega) (Nat.le_refl _)⟩⟩
end Go.Proofs.Ytakadejpgndhpaa
