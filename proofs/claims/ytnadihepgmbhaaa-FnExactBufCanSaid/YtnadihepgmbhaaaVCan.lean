/-
  What BufCan and SpreadCan come to, in the program and in the reference model.
-/
import Derived.Test.YtnadihepgmbhaaaVRd
import Derived.Test.YtnadihepgmbhaaaSCan
namespace Go.Proofs.Ytnadihepgmbhaaa
open Go.RowKit Pl Go.BigFrame
set_option maxHeartbeats 4000000
set_option maxRecDepth 100000
set_option linter.unusedVariables false

theorem own1 (b : Nat → List Nat) (t : Nat) : ownE 1 b t = (b t).isEmpty := by simp [ownE, List.range_succ]
theorem own3 (b : Nat → List Nat) (t : Nat) : ownE 3 b t = ((b (t * 3)).isEmpty && ((b (t * 3 + 1)).isEmpty && (b (t * 3 + 2)).isEmpty)) := by simp [ownE, List.range_succ]
theorem mul_in (n e : Nat) : n * (1 + e) = n + n * e := by rw [Nat.mul_add, Nat.mul_one]
theorem canQ_hi {e : Nat} {L : Pg} {f : Nat → Nat} {b : Nat → List Nat} {u : Nat} (h : u < L.length * e) : canQ e L f b (L.length + u : Nat) = !(b u).isEmpty := by
  unfold canQ
  rw [mul_in, if_pos (by simp [inB]; omega), show (((L.length + u : Nat) : Int) - (L.length : Int)).toNat = u by omega]
theorem canQ_lo {e : Nat} {L : Pg} {f : Nat → Nat} {b : Nat → List Nat} {st : Nat} (h : st < L.length) : canQ e L f b st = (canF L f st && (ownE e b st || weakB (smAt L st (f (3 + st))))) := by
  unfold canQ
  rw [mul_in]
  generalize L.length * e = N
  rw [if_neg (by simp [inB]; omega), show inB (st : Int) 0 ((L.length : Int) - 1) = true by simp [inB]; omega, Bool.true_and, Int.toNat_natCast]
theorem canQ_out {e : Nat} {L : Pg} {f : Nat → Nat} {b : Nat → List Nat} {st : Int} (h : inB st 0 (((L.length * (1 + e) : Nat) : Int) - 1) = false) : canQ e L f b st = false := by
  rw [mul_in] at h
  unfold canQ
  rw [mul_in]
  generalize L.length * e = N at *
  have h1 : inB st L.length (((L.length + N : Nat) : Int) - 1) = false := by simp [inB] at h ⊢; omega
  have h2 : inB st 0 ((L.length : Int) - 1) = false := by simp [inB] at h ⊢; omega
  rw [if_neg (by rw [h1]; simp), h2]; rfl
def bcanB (L : Pg) (o : Buf) (st : Int) : Bool := bufB L o && canQ 1 L (wdF L o.st) (cdsB o) st
theorem ibufcan_any (h : PgH) (L : Pg) (k : BufH) (o : Buf) (st : Int) (w : World) (B : Nat) (hP : PgR w B h L) (hS : BufR w B k o) (hB : B ≤ w.heap.size) (SP : PgS L) (LS : BufS o) (r : Bool) (hr : Hid (bcanB L o st = r)) :
    Calls Try.prog 45 #[PgV h L, BufV k o, .int .i64 st] w fun e w' => e = .returned (.bool r) ∧ Below w.heap.size w w' := by
  obtain ⟨W, hW⟩ : ∃ W, W = (w.alloc (.cells #[.slice h.A L.length h.c] 36)).alloc (.cells #[.slice k.h.A0 o.st.f0.length k.h.c0, .slice k.h.A1 o.st.f1.length k.h.c1, .slice k.h.A2 o.st.f2.length k.h.c2, .slice k.h.A3 o.st.f3.length k.h.c3, .slice k.h.A4 o.st.f4.length k.h.c4, .slice k.k.A o.bs.length k.k.c] 59) := ⟨_, rfl⟩
  have bW : Below w.heap.size w W := by rw [hW]; go_grown
  have k0 : Bk W w.heap.size 36 #[.slice h.A L.length h.c] := by rw [hW]; exact (Bk.new w _ _).alloc _
  have k1 : Bk W (w.heap.size + 1) 59 #[.slice k.h.A0 o.st.f0.length k.h.c0, .slice k.h.A1 o.st.f1.length k.h.c1, .slice k.h.A2 o.st.f2.length k.h.c2, .slice k.h.A3 o.st.f3.length k.h.c3, .slice k.h.A4 o.st.f4.length k.h.c4, .slice k.k.A o.bs.length k.k.c] := by
    rw [hW]; have := Bk.new (w.alloc (.cells #[.slice h.A L.length h.c] 36)) #[.slice k.h.A0 o.st.f0.length k.h.c0, .slice k.h.A1 o.st.f1.length k.h.c1, .slice k.h.A2 o.st.f2.length k.h.c2, .slice k.h.A3 o.st.f3.length k.h.c3, .slice k.h.A4 o.st.f4.length k.h.c4, .slice k.k.A o.bs.length k.k.c] 59
    rwa [World.size_alloc] at this
  have P0 := Lib.hid (hP.below bW hB)
  have Q0 := Lib.hid (hS.below bW hB)
  have B0 := Lib.hid bW
  have z0 := bW.size
  have HW := Lib.hid hW
  have hBW : B ≤ W.heap.size := by omega
  have lp := k0.lt
  have ls := k1.lt
  have gp : ∀ x : Ws (Fr W []), x.val.cell? ⟨w.heap.size, 0, none⟩ = some (.slice h.A L.length h.c) := Ws.same (bs := []) lp (k0.cell 0)
  have gs0 : ∀ x : Ws (Fr W []), x.val.cell? ⟨w.heap.size + 1, 0, none⟩ = some (.slice k.h.A0 o.st.f0.length k.h.c0) := Ws.same (bs := []) ls (k1.cell 0)
  have gs1 : ∀ x : Ws (Fr W []), x.val.cell? ⟨w.heap.size + 1, 1, none⟩ = some (.slice k.h.A1 o.st.f1.length k.h.c1) := Ws.same (bs := []) ls (k1.cell 1)
  have gs2 : ∀ x : Ws (Fr W []), x.val.cell? ⟨w.heap.size + 1, 2, none⟩ = some (.slice k.h.A2 o.st.f2.length k.h.c2) := Ws.same (bs := []) ls (k1.cell 2)
  have gs3 : ∀ x : Ws (Fr W []), x.val.cell? ⟨w.heap.size + 1, 3, none⟩ = some (.slice k.h.A3 o.st.f3.length k.h.c3) := Ws.same (bs := []) ls (k1.cell 3)
  have gs4 : ∀ x : Ws (Fr W []), x.val.cell? ⟨w.heap.size + 1, 4, none⟩ = some (.slice k.h.A4 o.st.f4.length k.h.c4) := Ws.same (bs := []) ls (k1.cell 4)
  have gs5 : ∀ x : Ws (Fr W []), x.val.cell? ⟨w.heap.size + 1, 5, none⟩ = some (.slice k.k.A o.bs.length k.k.c) := Ws.same (bs := []) ls (k1.cell 5)
  have Gp := Lib.hid (fun x : Ws (Fr W []) => P0.out.below x.ok.below hBW)
  have Gs := Lib.hid (fun x : Ws (Fr W []) => Q0.out.below x.ok.below hBW)
  have Gz := Lib.hid (fun x : Ws (Fr W []) => Nat.le_trans hBW x.ok.below.size)
  have HS := Lib.hid (fr_none W)
  haveI hne := Nonempty.intro (Ws.mk _ (fr_none W))
  clear hW bW k0 k1 hP hS z0
  rcases Bool.eq_false_or_eq_true (bufB L o) with hst | hst
  rotate_left
  · have hfin : Hid (r = false) := Lib.hid (by rw [← hr.out, bcanB, hst]; rfl)
    have HST := Lib.hid hst
    clear hr hst
    go_enter Try.func45, Try.ntmps45
    go_wp2_with fail
    rw [← HW.out]
    refine region_in (by kernel_rfl) HS.out.drew ?_
    repeat (go_big_quiet_step (first | (go_at_call 88; exact call_in (ibufok_any h L k o _ B (Gp.out _) (Gs.out _) (Gz.out _) SP LS false HST))))
    refine wpQuiet_nil ?_
    rintro _ ⟨⟨w2, hw2⟩, rfl⟩
    have hB2 := below_on B0.out hw2.below
    go_wp2
    go_ret
    exact ⟨by rw [hfin.out]; rfl, hB2⟩
  have F := bufB_parts hst
  have HF := Lib.hid F
  have HST := Lib.hid hst
  have hprog := F.P.prog
  have HR : Hid (canQ 1 L (wdF L o.st) (cdsB o) st = r) := Lib.hid (by rw [← hr.out, bcanB, hst, Bool.true_and])
  have HC : Hid (∀ t, t < L.length → wdF L o.st (0 + t) = bitN (canF L (wdF L o.st) t)) := Lib.hid (fun t ht => by rw [wdF_can ht]; exact congrArg bitN (canF_congr fun p hp => (wdF_hi F.P hp).symm))
  clear hr hst F
  go_enter Try.func45, Try.ntmps45
  go_wp2_with fail
  rw [← HW.out]
  refine region_in (by kernel_rfl) HS.out.drew ?_
  repeat (go_big_quiet_step (first | (go_at_call 88; exact call_in (ibufok_any h L k o _ B (Gp.out _) (Gs.out _) (Gz.out _) SP LS true HST)) | (go_at_call 89; exact call_in (packbuf_any h L k o _ B (Gp.out _) (Gs.out _) (Gz.out _) HF.out.P HF.out.n HF.out.ok)) | (go_at_call 81; exact call_in (bufable_any h L 1 (wdF L o.st) (cdsB o) st _ B (Or.inl rfl) (Gp.out _) (Gz.out _) hprog (wdF_good HF.out.P) HC.out r HR))))
  refine wpQuiet_nil ?_
  rintro _ ⟨⟨w2, hw2⟩, rfl⟩
  have hB2 := below_on B0.out hw2.below
  go_wp2
  go_ret
  exact ⟨rfl, hB2⟩
def vcanB (L : Pg) (o : Buf) (st : Int) : Bool := sprB L o && canQ 3 L (wdF L o.st) (cdsV o) st
theorem weak7_any (x : Sm) (w : World) (hx : x.okb = true) (r : Bool) (hr : Hid (weakB x = r)) :
    Calls Try.prog 117 #[x.val] w fun e w' => e = .returned (.bool r) ∧ Below w.heap.size w w' := by
  have hw := weak_strong hx
  rw [hr.out] at hw
  obtain ⟨k, a, b, c, s⟩ := x
  simp only at hw
  clear hr hx
  cases s with
  | true =>
    have hfin : Hid (r = false) := Lib.hid (by rw [← hw]; rfl)
    clear hw
    go_enter Try.func117, Try.ntmps117
    go_wp2
    go_ret
    exact ⟨by rw [hfin.out]; rfl, by go_grown⟩
  | false =>
    by_cases h0 : k = 0
    · subst h0
      have hfin : Hid (r = true) := Lib.hid (by rw [← hw]; rfl)
      clear hw
      go_enter Try.func117, Try.ntmps117
      go_wp2
      go_ret
      exact ⟨by rw [hfin.out]; rfl, by go_grown⟩
    by_cases h1 : k = 1
    · subst h1
      have hfin : Hid (r = true) := Lib.hid (by rw [← hw]; rfl)
      clear hw
      go_enter Try.func117, Try.ntmps117
      go_wp2
      go_ret
      exact ⟨by rw [hfin.out]; rfl, by go_grown⟩
    by_cases h2 : k = 2
    · subst h2
      have hfin : Hid (r = true) := Lib.hid (by rw [← hw]; rfl)
      clear hw
      go_enter Try.func117, Try.ntmps117
      go_wp2
      go_ret
      exact ⟨by rw [hfin.out]; rfl, by go_grown⟩
    have e0 : (k == 0) = false := by rw [beq_eq_false_iff_ne]; exact h0
    have e1 : (k == 1) = false := by rw [beq_eq_false_iff_ne]; exact h1
    have e2 : (k == 2) = false := by rw [beq_eq_false_iff_ne]; exact h2
    obtain ⟨q, hq⟩ : ∃ q, (k == 10) = q := ⟨_, rfl⟩
    have hfin : Hid (r = q) := Lib.hid (by rw [← hw, e0, e1, e2, hq]; rfl)
    clear hw
    cases q
    all_goals
      go_enter Try.func117, Try.ntmps117
      go_wp2
      go_ret
      exact ⟨by rw [hfin.out]; rfl, by go_grown⟩
theorem snext_P (h : PgH) (L : Pg) (k : StaH) (s : Sta) (t : Nat) (w : World) (B : Nat) (hP : PgR w B h L) (hS : StaR w B k s) (hB : B ≤ w.heap.size) (P : StP L s) (ht : t < L.length) :
    Calls Try.prog 116 #[PgV h L, StaV k s, .int .i64 t] w fun e w' => ∃ x : Sm, e = .returned (.tuple #[x.val, .bool (canF L (wdF L s) t)]) ∧ (canF L (wdF L s) t = true → x = smAt L t (wdF L s (3 + t)) ∧ x.okb = true) ∧ Below w.heap.size w w' := by
  have hc : canF L (wdF L s) t = nxZ L s t := (canF_congr fun p hp => wdF_hi P hp).trans (can_nx P ht)
  obtain ⟨xs, hxs⟩ : ∃ xs, L[t]? = some xs := ⟨_, List.getElem?_eq_getElem ht⟩
  obtain ⟨i, hi, h0, h1⟩ := atZ_at P.at_ hxs
  have hg : s.f0.getD t 0 = i := getD_at hi
  obtain ⟨n, rfl⟩ : ∃ n : Nat, i = n := ⟨i.toNat, by omega⟩
  have hw3 : wdF L s (3 + t) = n := by rw [wdF_hi P (by omega), pk_at P ht, hg, Int.toNat_natCast]
  rw [hc, hw3]
  unfold nxZ
  rw [hg, Int.toNat_natCast]
  by_cases hd : n < (L.getD t []).length
  · rw [decide_eq_true (by omega), Bool.true_and]
    refine (snext_yes h L k s t w B hP hS hB P ht n hg hd _ (Lib.hid rfl)).mono ?_
    rintro e w' ⟨rfl, hb⟩
    refine ⟨_, rfl, fun _ => ⟨rfl, ?_⟩, hb⟩
    rw [getD_some hxs] at hd
    have hxn : xs[n]? = some xs[n] := List.getElem?_eq_getElem hd
    have hsm : smAt L t n = xs[n] := by unfold smAt; rw [getD_some hxs]; exact getD_some hxn
    rw [hsm]
    exact (prog_thr P.prog hxs).2 _ _ hxn
  · rw [decide_eq_false (by omega), Bool.false_and]
    refine (snext_no h L k s t w B hP hS hB P ht (by rw [hg]; omega)).mono ?_
    rintro e w' ⟨rfl, hb⟩
    exact ⟨_, rfl, fun h => (by cases h), hb⟩
theorem s7can_any (h : PgH) (L : Pg) (k : BufH) (o : Buf) (st : Nat) (w : World) (B : Nat) (hP : PgR w B h L) (hS : BufR w B k o) (hB : B ≤ w.heap.size) (F : BfP L o) (hst : st < 2 * L.length) (r : Bool) (hr : Hid (canQ 1 L (wdF L o.st) (cdsB o) st = r)) :
    Calls Try.prog 90 #[PgV h L, BufV k o, .int .i64 st] w fun e w' => e = .returned (.bool r) ∧ Below w.heap.size w w' := by
  have n3 := F.P.n3
  have n1 := F.P.n1
  obtain ⟨W, hW⟩ : ∃ W, W = (w.alloc (.cells #[.slice h.A L.length h.c] 36)).alloc (.cells #[.slice k.h.A0 o.st.f0.length k.h.c0, .slice k.h.A1 o.st.f1.length k.h.c1, .slice k.h.A2 o.st.f2.length k.h.c2, .slice k.h.A3 o.st.f3.length k.h.c3, .slice k.h.A4 o.st.f4.length k.h.c4, .slice k.k.A o.bs.length k.k.c] 59) := ⟨_, rfl⟩
  have bW : Below w.heap.size w W := by rw [hW]; go_grown
  have k0 : Bk W w.heap.size 36 #[.slice h.A L.length h.c] := by rw [hW]; exact (Bk.new w _ _).alloc _
  have k1 : Bk W (w.heap.size + 1) 59 #[.slice k.h.A0 o.st.f0.length k.h.c0, .slice k.h.A1 o.st.f1.length k.h.c1, .slice k.h.A2 o.st.f2.length k.h.c2, .slice k.h.A3 o.st.f3.length k.h.c3, .slice k.h.A4 o.st.f4.length k.h.c4, .slice k.k.A o.bs.length k.k.c] := by
    rw [hW]; have := Bk.new (w.alloc (.cells #[.slice h.A L.length h.c] 36)) #[.slice k.h.A0 o.st.f0.length k.h.c0, .slice k.h.A1 o.st.f1.length k.h.c1, .slice k.h.A2 o.st.f2.length k.h.c2, .slice k.h.A3 o.st.f3.length k.h.c3, .slice k.h.A4 o.st.f4.length k.h.c4, .slice k.k.A o.bs.length k.k.c] 59
    rwa [World.size_alloc] at this
  have P0 := Lib.hid (hP.below bW hB)
  have Q0 := Lib.hid (hS.below bW hB)
  have K0 := Lib.hid k0
  have K1 := Lib.hid k1
  have B0 := Lib.hid bW
  have z0 := bW.size
  have HW := Lib.hid hW
  clear hW bW k0 k1 hP hS
  by_cases hs : L.length ≤ st
  · obtain ⟨u, rfl⟩ : ∃ u, st = L.length + u := ⟨st - L.length, by omega⟩
    have hul : u < L.length := by omega
    obtain ⟨hrow, -, -⟩ := F.row hul
    have hfin : Hid ((!(cdsB o u).isEmpty) = r) := Lib.hid (by
      rw [← hr.out, canQ_hi (by omega)])
    obtain ⟨rb, ro, Ai, ci, hA, hrb, hx0, hrw⟩ := Q0.out.b.v.at_ (vsIss_at hrow)
    rw [ints_length, rowS_length] at hx0
    have hlo : u < o.bs.length := by have := F.n; omega
    have lrb : rb < W.heap.size := by omega
    obtain ⟨S, hS⟩ : ∃ S : Int, ((L.length + u : Nat) : Int) = S := ⟨_, rfl⟩
    have hge : (L.length : Int) ≤ S := by omega
    have hsub : S - (L.length : Int) = (u : Int) := by omega
    have hti : (u : Int) < (o.bs.length : Int) := by omega
    have hpos : Hid (decide ((0 : Int) < ((2 * (cdsB o u).length : Nat) : Int)) = r) := Lib.hid (by
      rw [← hfin.out]
      cases cdsB o u with
      | nil => rfl
      | cons c q => simp; omega)
    generalize (cdsB o u).length = n at hx0 hpos
    rw [hS]
    have lrw : rb < w.heap.size := by omega
    have hx0l := (B0.out.cell (p := ⟨rb, ro + u, none⟩) lrw).symm.trans hx0
    have hx0m := hx0
    rw [HW.out] at hx0m
    clear hx0
    clear hr hrow hrw hs hfin hS F
    go_enter Try.func90, Try.ntmps90
    go_wp2
    go_ret
    refine ⟨?_, by go_grown⟩
    rw [← hpos.out, show ((2 * n : Nat) : Int) = 2 * (n : Int) by omega]
    rfl
  · have hlt : st < L.length := by omega
    have hnge : ¬ (L.length : Int) ≤ (st : Int) := by omega
    have hr1 : Hid ((canF L (wdF L o.st) st && ((cdsB o st).isEmpty || weakB (smAt L st (wdF L o.st (3 + st))))) = r) := Lib.hid (by
      rw [← hr.out, canQ_lo hlt, own1])
    have HF := Lib.hid F
    obtain ⟨cf, hcf⟩ : ∃ cf, canF L (wdF L o.st) st = cf := ⟨_, rfl⟩
    rw [hcf] at hr1
    clear hr hs F
    have lP := K0.out.lt
    go_enter Try.func90, Try.ntmps90
    go_wp2_with fail
    rw [← HW.out]
    have key := snext_P h L k.h o.st st W B P0.out Q0.out.s (by omega) HF.out.P hlt
    rw [hcf] at key
    refine key.mono ?_
    clear key
    rintro e w1 ⟨x, rfl, hx, hb⟩
    have B1 := Lib.hid (below_on B0.out hb)
    have Q1 := Lib.hid (Q0.out.below hb (by omega))
    have K11 := Lib.hid (K1.out.below hb K1.out.lt)
    have z1 := hb.size
    clear hb
    cases cf with
    | false =>
      have hfin : Hid (r = false) := Lib.hid (by rw [← hr1.out]; rfl)
      clear hx
      go_wp2
      go_ret
      exact ⟨by rw [hfin.out]; rfl, B1.out.alloc (by omega) _⟩
    | true =>
      obtain ⟨hx1, hxo⟩ := hx rfl
      clear hx
      have hr2 : Hid (((cdsB o st).isEmpty || weakB x) = r) := Lib.hid (by rw [hx1, ← hr1.out]; rfl)
      clear hx1
      obtain ⟨hrow, -, -⟩ := HF.out.row hlt
      obtain ⟨rb, ro, Ai, ci, hA, hrb, hx0, hrw⟩ := Q1.out.b.v.at_ (vsIss_at hrow)
      rw [ints_length, rowS_length] at hx0
      have hlo : st < o.bs.length := by have := HF.out.n; omega
      have lrb : rb < w1.heap.size := by omega
      have hti : (st : Int) < (o.bs.length : Int) := by omega
      have c5 : w1.cell? ⟨w.heap.size + 1, 5, none⟩ = some (.slice k.k.A o.bs.length k.k.c) := K11.out.cell 5
      have l5 := K11.out.lt
      clear hrow hrw
      rcases Bool.eq_false_or_eq_true (weakB x) with hw | hw
      · have hfin : Hid (r = true) := Lib.hid (by rw [← hr2.out, hw, Bool.or_true])
        have HWk := Lib.hid hw
        clear hw hx0 c5 hA
        go_wp2_with fail
        refine (weak7_any x _ hxo true HWk).mono ?_
        rintro e w2 ⟨rfl, hb2⟩
        have B2 := Lib.hid (below_on (B1.out.alloc (by omega) _) hb2)
        clear hb2
        go_wp2
        go_ret
        exact ⟨by rw [hfin.out]; rfl, B2.out⟩
      · have hpos : Hid (decide (((2 * (cdsB o st).length : Nat) : Int) = 0) = r) := Lib.hid (by
          rw [← hr2.out, hw, Bool.or_false]
          cases cdsB o st with
          | nil => rfl
          | cons c q => simp; omega)
        have HWk := Lib.hid hw
        generalize (cdsB o st).length = n at hx0 hpos
        have HX := Lib.hid hx0
        have H5 := Lib.hid c5
        clear hw hx0 c5
        go_wp2_with fail
        refine (weak7_any x _ hxo false HWk).mono ?_
        rintro e w2 ⟨rfl, hb2⟩
        have b12 : Below w1.heap.size w1 w2 := ((Below.refl _ _).alloc (Nat.le_refl _) _).trans (hb2.mono (by simp))
        have B2 := Lib.hid (below_on B1.out b12)
        have x2 := (b12.cell (p := ⟨rb, ro + st, none⟩) lrb).trans HX.out
        have c52 := (b12.cell (p := ⟨w.heap.size + 1, 5, none⟩) l5).trans H5.out
        have z2 := b12.size
        have l52 : w.heap.size + 1 < w2.heap.size := by omega
        have lrb2 : rb < w2.heap.size := by omega
        clear hb2 b12
        go_wp2
        go_ret
        refine ⟨?_, B2.out⟩
        rw [← hpos.out, show ((2 * n : Nat) : Int) = 2 * (n : Int) by omega]
        rfl
theorem sbufcan_any (h : PgH) (L : Pg) (k : BufH) (o : Buf) (st : Int) (w : World) (B : Nat) (hP : PgR w B h L) (hS : BufR w B k o) (hB : B ≤ w.heap.size) (SP : PgS L) (LS : BufS o) (r : Bool) (hr : Hid (bcanB L o st = r)) :
    Calls Try.prog 44 #[PgV h L, BufV k o, .int .i64 st] w fun e w' => e = .returned (.bool r) ∧ Below w.heap.size w w' := by
  obtain ⟨W, hW⟩ : ∃ W, W = (w.alloc (.cells #[.slice h.A L.length h.c] 36)).alloc (.cells #[.slice k.h.A0 o.st.f0.length k.h.c0, .slice k.h.A1 o.st.f1.length k.h.c1, .slice k.h.A2 o.st.f2.length k.h.c2, .slice k.h.A3 o.st.f3.length k.h.c3, .slice k.h.A4 o.st.f4.length k.h.c4, .slice k.k.A o.bs.length k.k.c] 59) := ⟨_, rfl⟩
  have bW : Below w.heap.size w W := by rw [hW]; go_grown
  have k0 : Bk W w.heap.size 36 #[.slice h.A L.length h.c] := by rw [hW]; exact (Bk.new w _ _).alloc _
  have k1 : Bk W (w.heap.size + 1) 59 #[.slice k.h.A0 o.st.f0.length k.h.c0, .slice k.h.A1 o.st.f1.length k.h.c1, .slice k.h.A2 o.st.f2.length k.h.c2, .slice k.h.A3 o.st.f3.length k.h.c3, .slice k.h.A4 o.st.f4.length k.h.c4, .slice k.k.A o.bs.length k.k.c] := by
    rw [hW]; have := Bk.new (w.alloc (.cells #[.slice h.A L.length h.c] 36)) #[.slice k.h.A0 o.st.f0.length k.h.c0, .slice k.h.A1 o.st.f1.length k.h.c1, .slice k.h.A2 o.st.f2.length k.h.c2, .slice k.h.A3 o.st.f3.length k.h.c3, .slice k.h.A4 o.st.f4.length k.h.c4, .slice k.k.A o.bs.length k.k.c] 59
    rwa [World.size_alloc] at this
  have P0 := Lib.hid (hP.below bW hB)
  have Q0 := Lib.hid (hS.below bW hB)
  have K0 := Lib.hid k0
  have K1 := Lib.hid k1
  have B0 := Lib.hid bW
  have z0 := bW.size
  have HW := Lib.hid hW
  clear hW bW k0 k1 hP hS
  rcases Bool.eq_false_or_eq_true (bufB L o) with hst | hst
  rotate_left
  · have hfin : Hid (r = false) := Lib.hid (by rw [← hr.out, bcanB, hst]; rfl)
    have HST := Lib.hid hst
    clear hr hst
    go_enter Try.func44, Try.ntmps44
    go_wp2_with fail
    rw [← HW.out]
    refine (sbufok_any h L k o W B P0.out Q0.out (by omega) SP LS false HST).mono ?_
    rintro e w1 ⟨rfl, hb⟩
    have B1 := Lib.hid (below_on B0.out hb)
    have z1 := hb.size
    have k01 := K0.out.below hb K0.out.lt
    have k11 := K1.out.below hb K1.out.lt
    have P1 := Lib.hid (P0.out.below hb (by omega))
    have Q1 := Lib.hid (Q0.out.below hb (by omega))
    have cP : w1.cell? ⟨w.heap.size, 0, none⟩ = some (.slice h.A L.length h.c) := k01.cell 0
    have lP := k01.lt
    have lS := k11.lt
    have cS0 : w1.cell? ⟨w.heap.size + 1, 0, none⟩ = some (.slice k.h.A0 o.st.f0.length k.h.c0) := k11.cell 0
    have cS1 : w1.cell? ⟨w.heap.size + 1, 1, none⟩ = some (.slice k.h.A1 o.st.f1.length k.h.c1) := k11.cell 1
    have cS2 : w1.cell? ⟨w.heap.size + 1, 2, none⟩ = some (.slice k.h.A2 o.st.f2.length k.h.c2) := k11.cell 2
    have cS3 : w1.cell? ⟨w.heap.size + 1, 3, none⟩ = some (.slice k.h.A3 o.st.f3.length k.h.c3) := k11.cell 3
    have cS4 : w1.cell? ⟨w.heap.size + 1, 4, none⟩ = some (.slice k.h.A4 o.st.f4.length k.h.c4) := k11.cell 4
    have cS5 : w1.cell? ⟨w.heap.size + 1, 5, none⟩ = some (.slice k.k.A o.bs.length k.k.c) := k11.cell 5
    clear hb k01 k11
    go_wp2
    go_ret
    exact ⟨by rw [hfin.out]; rfl, B1.out⟩
  have F := bufB_parts hst
  have HF := Lib.hid F
  have HST := Lib.hid hst
  have n3 := F.P.n3
  rcases Bool.eq_false_or_eq_true (inB st 0 (2 * (L.length : Int) - 1)) with hi | hi
  rotate_left
  · have hfin : Hid (r = false) := Lib.hid (by rw [← hr.out, bcanB, canQ_out (e := 1) (by rw [show (((L.length * (1 + 1) : Nat) : Int) - 1) = 2 * (L.length : Int) - 1 by omega]; exact hi), Bool.and_false])
    have HI := Lib.hid hi
    clear hr hst hi F
    go_enter Try.func44, Try.ntmps44
    go_wp2_with fail
    rw [← HW.out]
    refine (sbufok_any h L k o W B P0.out Q0.out (by omega) SP LS true HST).mono ?_
    rintro e w1 ⟨rfl, hb⟩
    have B1 := Lib.hid (below_on B0.out hb)
    have z1 := hb.size
    have k01 := K0.out.below hb K0.out.lt
    have k11 := K1.out.below hb K1.out.lt
    have P1 := Lib.hid (P0.out.below hb (by omega))
    have Q1 := Lib.hid (Q0.out.below hb (by omega))
    have cP : w1.cell? ⟨w.heap.size, 0, none⟩ = some (.slice h.A L.length h.c) := k01.cell 0
    have lP := k01.lt
    have lS := k11.lt
    have cS0 : w1.cell? ⟨w.heap.size + 1, 0, none⟩ = some (.slice k.h.A0 o.st.f0.length k.h.c0) := k11.cell 0
    have cS1 : w1.cell? ⟨w.heap.size + 1, 1, none⟩ = some (.slice k.h.A1 o.st.f1.length k.h.c1) := k11.cell 1
    have cS2 : w1.cell? ⟨w.heap.size + 1, 2, none⟩ = some (.slice k.h.A2 o.st.f2.length k.h.c2) := k11.cell 2
    have cS3 : w1.cell? ⟨w.heap.size + 1, 3, none⟩ = some (.slice k.h.A3 o.st.f3.length k.h.c3) := k11.cell 3
    have cS4 : w1.cell? ⟨w.heap.size + 1, 4, none⟩ = some (.slice k.h.A4 o.st.f4.length k.h.c4) := k11.cell 4
    have cS5 : w1.cell? ⟨w.heap.size + 1, 5, none⟩ = some (.slice k.k.A o.bs.length k.k.c) := k11.cell 5
    clear hb k01 k11
    go_wp2_with fail
    refine (l1In_b st 0 _ _ _ HI).mono ?_
    rintro e w' ⟨rfl, rfl⟩
    go_wp2
    go_ret
    exact ⟨by rw [hfin.out]; rfl, B1.out⟩
  have HI := Lib.hid hi
  obtain ⟨t, rfl⟩ : ∃ t : Nat, st = t := ⟨st.toNat, by simp [inB] at hi; omega⟩
  have ht2 : t < 2 * L.length := by simp [inB] at hi; omega
  have HR : Hid (canQ 1 L (wdF L o.st) (cdsB o) t = r) := Lib.hid (by rw [← hr.out, bcanB, hst, Bool.true_and])
  clear hr hst hi F
  go_enter Try.func44, Try.ntmps44
  go_wp2_with fail
  rw [← HW.out]
  refine (sbufok_any h L k o W B P0.out Q0.out (by omega) SP LS true HST).mono ?_
  rintro e w1 ⟨rfl, hb⟩
  have B1 := Lib.hid (below_on B0.out hb)
  have z1 := hb.size
  have k01 := K0.out.below hb K0.out.lt
  have k11 := K1.out.below hb K1.out.lt
  have P1 := Lib.hid (P0.out.below hb (by omega))
  have Q1 := Lib.hid (Q0.out.below hb (by omega))
  have cP : w1.cell? ⟨w.heap.size, 0, none⟩ = some (.slice h.A L.length h.c) := k01.cell 0
  have lP := k01.lt
  have lS := k11.lt
  have cS0 : w1.cell? ⟨w.heap.size + 1, 0, none⟩ = some (.slice k.h.A0 o.st.f0.length k.h.c0) := k11.cell 0
  have cS1 : w1.cell? ⟨w.heap.size + 1, 1, none⟩ = some (.slice k.h.A1 o.st.f1.length k.h.c1) := k11.cell 1
  have cS2 : w1.cell? ⟨w.heap.size + 1, 2, none⟩ = some (.slice k.h.A2 o.st.f2.length k.h.c2) := k11.cell 2
  have cS3 : w1.cell? ⟨w.heap.size + 1, 3, none⟩ = some (.slice k.h.A3 o.st.f3.length k.h.c3) := k11.cell 3
  have cS4 : w1.cell? ⟨w.heap.size + 1, 4, none⟩ = some (.slice k.h.A4 o.st.f4.length k.h.c4) := k11.cell 4
  have cS5 : w1.cell? ⟨w.heap.size + 1, 5, none⟩ = some (.slice k.k.A o.bs.length k.k.c) := k11.cell 5
  clear hb k01 k11
  go_wp2_with fail
  refine (l1In_b (t : Int) 0 _ _ _ HI).mono ?_
  rintro e w' ⟨rfl, rfl⟩
  go_wp2_with fail
  refine (s7can_any h L k o t w1 B P1.out Q1.out (by omega) HF.out ht2 r HR).mono ?_
  rintro e w2 ⟨rfl, hb2⟩
  have B2 := Lib.hid (below_on B1.out hb2)
  clear hb2 cP cS0 cS1 cS2 cS3 cS4 cS5
  go_wp2
  go_ret
  exact ⟨rfl, B2.out⟩
end Go.Proofs.Ytnadihepgmbhaaa
