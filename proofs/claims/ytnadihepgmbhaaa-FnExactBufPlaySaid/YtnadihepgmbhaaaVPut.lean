/-
  What the program's bufStepped comes to: the words behind a step; a store that is put behind, and all of it.
-/
import Derived.Test.YtnadihepgmbhaaaVQ
import Derived.Test.YtnadihepgmbhaaaIDo
import Derived.Test.YtnadihepgmbhaaaSteppd
import Derived.Deep.RegionHeld3
namespace Go.Proofs.Ytnadihepgmbhaaa
open Go.RowKit Pl Go.BigFrame
set_option maxHeartbeats 4000000
set_option maxRecDepth 100000
set_option linter.unusedVariables false

/-- The word and the buffers behind a step. -/
def stepQ (e : Nat) (L : Pg) (f : Nat → Nat) (b : Nat → List Nat) (st : Nat) : (Nat → Nat) × (Nat → List Nat) :=
  if L.length ≤ st then
    match b (st - L.length) with
    | c :: r => (upd f (15 + c / 4) (c % 4), updB b (st - L.length) r)
    | [] => (f, b)
  else if (smAt L st (f (3 + st))).k = 2 ∧ (smAt L st (f (3 + st))).s = false then
    (goF L f st (smAt L st (f (3 + st))), updB b (bfi e st (smAt L st (f (3 + st))).a.toNat) (b (bfi e st (smAt L st (f (3 + st))).a.toNat) ++ [(smAt L st (f (3 + st))).a.toNat * 4 + sumF f st (smAt L st (f (3 + st))).b (smAt L st (f (3 + st))).c]))
  else if (smAt L st (f (3 + st))).k = 1 then
    (upd (stepF L f st) (6 + (st * 3 + (smAt L st (f (3 + st))).a.toNat)) (rdC (b (bfi e st (smAt L st (f (3 + st))).b.toNat)) (smAt L st (f (3 + st))).b.toNat (f (15 + (smAt L st (f (3 + st))).b.toNat))), b)
  else (stepF L f st, b)
def putBeh (x : Sm) : Bool := x.k == 2 && !x.s
theorem isput_any (x : Sm) (w : World) (r : Bool) (hr : Hid (putBeh x = r)) :
    Calls Try.prog 163 #[x.val] w fun e w' => e = .returned (.bool r) ∧ Below w.heap.size w w' := by
  obtain ⟨k, a, b, c, s⟩ := x
  have hr' := hr.out
  unfold putBeh at hr'
  simp only at hr'
  clear hr
  by_cases h2 : k = 2
  · subst h2
    cases s
    all_goals
      have hfin := Lib.hid hr'
      clear hr'
      go_enter Try.func163, Try.ntmps163
      go_wp2
      go_ret
      exact ⟨by rw [← hfin.out]; rfl, by go_grown⟩
  · have e2 : (k == 2) = false := by rw [beq_eq_false_iff_ne]; exact h2
    have hfin : Hid (r = false) := Lib.hid (by rw [← hr', e2]; rfl)
    clear hr'
    go_enter Try.func163, Try.ntmps163
    go_wp2
    go_ret
    exact ⟨by rw [hfin.out]; rfl, by go_grown⟩
theorem bstp_take (h : PgH) (L : Pg) (e : Nat) (f : Nat → Nat) (b : Nat → List Nat) (t : Nat) (w : World) (B : Nat) (hP : PgR w B h L) (hB : B ≤ w.heap.size) (hf : okF WS f) (ht : t < 9) (c : Nat) (q : List Nat) (hbt : b t = c :: q) (hok : okS (c :: q)) (hl : q.length ≤ 6) :
    Calls Try.prog 131 #[PgV h L, QV e f b, .int .i64 (L.length + t : Nat)] w fun en w' => en = .returned (QV e (upd f (15 + c / 4) (c % 4)) (updB b t q)) ∧ Below w.heap.size w w' := by
  have TQ' := Lib.hid (fun v => takq_any e f b t v hf ht c q hbt hok hl)
  obtain ⟨S, hS⟩ : ∃ S : Int, ((L.length + t : Nat) : Int) = S := ⟨_, rfl⟩
  have hge : (L.length : Int) ≤ S := by omega
  have hsub : S - (L.length : Int) = (t : Int) := by omega
  have hti : (t : Int) < 9 := by omega
  rw [hS]
  clear hS hbt hok
  obtain ⟨W, hW⟩ : ∃ W, W = ((w.alloc (.cells #[.slice h.A L.length h.c] 36)).alloc (.cells (mkQ e (enc WS f) (mk9 b) fun i => bwC (b i)) TQ)).alloc (.cells Z12 TQ) := ⟨_, rfl⟩
  have bW : Below w.heap.size w W := by rw [hW]; go_grown
  have sW : W.heap.size = w.heap.size + 1 + 1 + 1 := by rw [hW]; simp
  have k0 : Bk W w.heap.size 36 #[.slice h.A L.length h.c] := by rw [hW]; exact ((Bk.new w _ _).alloc _).alloc _
  have k1 : Bk W (w.heap.size + 1) TQ (mkQ e (enc WS f) (mk9 b) fun i => bwC (b i)) := by
    rw [hW]; have := (Bk.new (w.alloc (.cells #[.slice h.A L.length h.c] 36)) (mkQ e (enc WS f) (mk9 b) fun i => bwC (b i)) TQ).alloc (.cells Z12 TQ)
    rwa [World.size_alloc] at this
  have k2 : Bk W (w.heap.size + 1 + 1) TQ Z12 := by
    rw [hW]; have := Bk.new ((w.alloc (.cells #[.slice h.A L.length h.c] 36)).alloc (.cells (mkQ e (enc WS f) (mk9 b) fun i => bwC (b i)) TQ)) Z12 TQ
    rwa [World.size_alloc, World.size_alloc] at this
  have P0 := Lib.hid (hP.below bW hB)
  have K0 := Lib.hid k0
  have K1 := Lib.hid k1
  have K2 := Lib.hid k2
  have B0 := Lib.hid bW
  have sWa := Nat.le_of_eq sW
  have sWb := Nat.le_of_eq sW.symm
  have HW := Lib.hid hW
  have cP : W.cell? ⟨w.heap.size, 0, none⟩ = some (.slice h.A L.length h.c) := k0.cell 0
  have c1 : W.cell? ⟨w.heap.size + 1, 1, none⟩ = some (.int .u64 (enc WS f : Nat)) := (k1.cell 1).trans (mkQ_1 _ _ _ _)
  have lP := k0.lt
  have lQ := k1.lt
  clear hW bW sW k0 k1 k2 hP
  go_enter Try.func131, Try.ntmps131
  go_wp2_with (first | (rw [← HW.out]) | (refine ld_q rfl _ rfl (w.heap.size + 1) rfl TQ _ K1.out rfl ?_))
  refine (TQ'.out _).mono ?_
  rintro en w1 ⟨rfl, hb1⟩
  have B1 := Lib.hid (below_on B0.out hb1)
  have K21 := Lib.hid (K2.out.below hb1 K2.out.lt)
  clear hb1 cP c1
  go_wp2_with (refine st_q rfl _ _ rfl (w.heap.size + 1 + 1) rfl TQ _ _ rfl K21.out rfl rfl (mkQ_one _ _ _ _) ?_; intro V3 s3)
  exact bodyPost_ret (v := QV e (upd f (15 + c / 4) (c % 4)) (updB b t q)) (res_q rfl rfl s3.bk rfl) rfl ⟨rfl, B1.out.trans (s3.bel _ (by omega))⟩
theorem can_lt {L : Pg} {f : Nat → Nat} {t : Nat} (hL : progB L = true) (hf : Good L f) (ht : t < L.length) (hc : canF L f t = true) : f (3 + t) < (L.getD t []).length ∧ (smAt L t (f (3 + t))).okb = true := by
  obtain ⟨xs, hxs⟩ : ∃ xs, L[t]? = some xs := ⟨_, List.getElem?_eq_getElem ht⟩
  have hle := hf.at_ t xs hxs
  have hd : L.getD t [] = xs := getD_some hxs
  unfold canF at hc
  rw [hd] at hc ⊢
  have hne : f (3 + t) ≠ xs.length := by intro e; rw [e] at hc; simp at hc
  have hlt : f (3 + t) < xs.length := by omega
  have hxn : xs[f (3 + t)]? = some xs[f (3 + t)] := List.getElem?_eq_getElem hlt
  have hsm : smAt L t (f (3 + t)) = xs[f (3 + t)] := by unfold smAt; rw [hd]; exact getD_some hxn
  exact ⟨hlt, by rw [hsm]; exact (prog_thr hL hxs).2 _ _ hxn⟩
theorem bstp_rest (h : PgH) (L : Pg) (e : Nat) (f : Nat → Nat) (b : Nat → List Nat) (t : Nat) (w : World) (B : Nat) (hP : PgR w B h L) (hB : B ≤ w.heap.size) (hL : progB L = true) (hf : Good L f) (ht : t < L.length) (hc : canF L f t = true) (h4 : ∀ n, n < 2 → f (20 + n) ≤ 4) (hk : putBeh (smAt L t (f (3 + t))) = false) (hk1 : (smAt L t (f (3 + t))).k ≠ 1) :
    Calls Try.prog 131 #[PgV h L, QV e f b, .int .i64 t] w fun en w' => en = .returned (QV e (stepF L f t) b) ∧ Below w.heap.size w w' := by
  obtain ⟨h31, h32⟩ := prog_len hL
  have ht3 : t < 3 := by omega
  obtain ⟨hml, hxok⟩ := can_lt hL hf ht hc
  have hev := Lib.hid (fun (V : World) (hP : PgR V B h L) (hB : B ≤ V.heap.size) => nextev_any h L f t V B hP hB hL hf ht hml)
  have SD := Lib.hid (fun (V : World) (hP : PgR V B h L) (hB : B ≤ V.heap.size) => stepped_any h L f t V B hP hB hL hf ht hc h4)
  unfold evV at hev
  obtain ⟨x, hx⟩ : ∃ x, smAt L t (f (3 + t)) = x := ⟨_, rfl⟩
  rw [hx] at hev hxok hk hk1
  have hfd := ev_stmt (t : Int) (f (3 + t) : Nat) x.k x.a x.b x.c x.s
  have IP := Lib.hid (fun v => isput_any x v false (Lib.hid hk))
  have hnge : ¬ (L.length : Int) ≤ (t : Int) := by omega
  have hti : (t : Int) < (L.length : Int) := by omega
  have ek1 : (x.k == 1) = false := by rw [beq_eq_false_iff_ne]; exact hk1
  clear hf hx hc hml h4 hk
  obtain ⟨E, hE⟩ : ∃ E, enc WS f = E := ⟨_, rfl⟩
  obtain ⟨E2, hE2⟩ : ∃ E2, enc WS (stepF L f t) = E2 := ⟨_, rfl⟩
  obtain ⟨m, hm⟩ : ∃ m, mk9 b = m := ⟨_, rfl⟩
  obtain ⟨n, hn⟩ : ∃ n : Nat → Nat, (fun i => bwC (b i)) = n := ⟨_, rfl⟩
  show Calls Try.prog 131 #[PgV h L, .agg (mkQ e (enc WS f) (mk9 b) fun i => bwC (b i)), .int .i64 t] w fun en w' => en = .returned (.agg (mkQ e (enc WS (stepF L f t)) (mk9 b) fun i => bwC (b i))) ∧ Below w.heap.size w w'
  rw [hE] at hev SD ⊢
  rw [hE2] at SD ⊢
  rw [hm, hn]
  clear hE hE2 hm hn
  obtain ⟨W, hW⟩ : ∃ W, W = ((w.alloc (.cells #[.slice h.A L.length h.c] 36)).alloc (.cells (mkQ e E m n) TQ)).alloc (.cells Z12 TQ) := ⟨_, rfl⟩
  have bW : Below w.heap.size w W := by rw [hW]; go_grown
  have sW : W.heap.size = w.heap.size + 1 + 1 + 1 := by rw [hW]; simp
  have k0 : Bk W w.heap.size 36 #[.slice h.A L.length h.c] := by rw [hW]; exact ((Bk.new w _ _).alloc _).alloc _
  have k1 : Bk W (w.heap.size + 1) TQ (mkQ e E m n) := by
    rw [hW]; have := (Bk.new (w.alloc (.cells #[.slice h.A L.length h.c] 36)) (mkQ e E m n) TQ).alloc (.cells Z12 TQ)
    rwa [World.size_alloc] at this
  have k2 : Bk W (w.heap.size + 1 + 1) TQ Z12 := by
    rw [hW]; have := Bk.new ((w.alloc (.cells #[.slice h.A L.length h.c] 36)).alloc (.cells (mkQ e E m n) TQ)) Z12 TQ
    rwa [World.size_alloc, World.size_alloc] at this
  have P0 := Lib.hid (hP.below bW hB)
  have K0 := Lib.hid k0
  have K1 := Lib.hid k1
  have K2 := Lib.hid k2
  have B0 := Lib.hid bW
  have sWa := Nat.le_of_eq sW
  have sWb := Nat.le_of_eq sW.symm
  have HW := Lib.hid hW
  have cP : W.cell? ⟨w.heap.size, 0, none⟩ = some (.slice h.A L.length h.c) := k0.cell 0
  have c1 : W.cell? ⟨w.heap.size + 1, 1, none⟩ = some (.int .u64 (E : Nat)) := (k1.cell 1).trans (mkQ_1 _ _ _ _)
  have lP := k0.lt
  have lQ := k1.lt
  clear hW bW sW k0 k1 k2 hP
  go_enter Try.func131, Try.ntmps131
  go_wp2_with (rw [← HW.out])
  refine (hev.out W P0.out (by omega)).mono ?_
  rintro en w1 ⟨rfl, hb1⟩
  have B1 := Lib.hid (below_on B0.out hb1)
  have P1 := Lib.hid (P0.out.below hb1 (by omega))
  have K01 := Lib.hid (K0.out.below hb1 K0.out.lt)
  have K11 := Lib.hid (K1.out.below hb1 K1.out.lt)
  have K21 := Lib.hid (K2.out.below hb1 K2.out.lt)
  have z1 := hb1.size
  clear hb1 cP c1 lP lQ
  go_wp2_with fail
  obtain ⟨V, hV⟩ : ∃ V, V = w1.alloc (.cells #[.int .i64 x.k, .int .i64 x.a, .int .i64 x.b, .int .i64 x.c, .bool x.s] 119) := ⟨_, rfl⟩
  rw [← hV]
  have bV : Below w1.heap.size w1 V := by rw [hV]; exact (Below.refl _ _).alloc (Nat.le_refl _) _
  have kX : Bk V w1.heap.size 119 #[.int .i64 x.k, .int .i64 x.a, .int .i64 x.b, .int .i64 x.c, .bool x.s] := by rw [hV]; exact Bk.new _ _ _
  have zV := bV.size
  refine (IP.out _).mono ?_
  rintro en w2 ⟨rfl, hb2⟩
  have b12 : Below w1.heap.size w1 w2 := bV.trans (hb2.mono zV)
  have B2 := Lib.hid (B1.out.trans (b12.mono (by omega)))
  have P2 := Lib.hid (P1.out.below b12 (by omega))
  have K02 := Lib.hid (K01.out.below b12 K01.out.lt)
  have K12 := Lib.hid (K11.out.below b12 K11.out.lt)
  have K22 := Lib.hid (K21.out.below b12 K21.out.lt)
  have KX2 := Lib.hid (kX.below hb2 kX.lt)
  have z2 := b12.size
  have lx := KX2.out.lt
  clear hV bV kX hb2 b12 K0 K1 K2 K01 K11 K21 hfd
  have cP : w2.cell? ⟨w.heap.size, 0, none⟩ = some (.slice h.A L.length h.c) := K02.out.cell 0
  have c1 : w2.cell? ⟨w.heap.size + 1, 1, none⟩ = some (.int .u64 (E : Nat)) := (K12.out.cell 1).trans (mkQ_1 _ _ _ _)
  have lP := K02.out.lt
  have lQ := K12.out.lt
  go_wp2_with (first | (refine ld_q rfl _ rfl (w.heap.size + 1) rfl TQ _ K12.out rfl ?_) | (refine st_q rfl _ _ rfl w2.heap.size rfl TQ Z12 _ rfl (Bk.new _ _ _) rfl rfl (mkQ_one _ _ _ _) ?_; intro V3 s3; have b23 : Below w2.heap.size w2 V3 := ((Below.refl _ _).alloc (Nat.le_refl _) _).trans (s3.bel _ (Nat.le_refl _)); have z23 := b23.size; have cP3 : V3.cell? ⟨w.heap.size, 0, none⟩ = some (.slice h.A L.length h.c) := (K02.out.below b23 K02.out.lt).cell 0; have c13 : V3.cell? ⟨w.heap.size + 1, 1, none⟩ = some (.int .u64 (E : Nat)) := ((K12.out.below b23 K12.out.lt).cell 1).trans (mkQ_1 _ _ _ _)))
  have zV3 : w2.heap.size < V3.heap.size := s3.bk.lt
  refine (SD.out V3 (P2.out.below b23 (by omega)) (by omega)).mono ?_
  rintro en w3 ⟨rfl, hb3⟩
  have b33 : Below w2.heap.size w2 w3 := b23.trans (hb3.mono z23)
  have B3 := Lib.hid (B2.out.trans (b33.mono (by omega)))
  have K13 := Lib.hid (K12.out.below b33 K12.out.lt)
  have K23 := Lib.hid (K22.out.below b33 K22.out.lt)
  have KX3 := Lib.hid (KX2.out.below b33 KX2.out.lt)
  have KR3 := Lib.hid (s3.bk.below hb3 s3.bk.lt)
  have z3 := b33.size
  have lr := KR3.out.lt
  clear s3 hb3 b33 b23 cP3 c13 cP c1 P2 K02 K12 K22 KX2
  have fR := KR3.out.free 1
  have cR : w3.cell? ⟨w2.heap.size, 1, none⟩ = some (.int .u64 (E : Nat)) := (KR3.out.cell 1).trans (mkQ_1 _ _ _ _)
  have ck : w3.cell? ⟨w1.heap.size, 0, none⟩ = some (.int .i64 x.k) := KX3.out.cell 0
  have lx3 := KX3.out.lt
  clear SD
  have K4 := Lib.hid (show Bk (w3.setCell ⟨w2.heap.size, 1, none⟩ (.int .u64 (E2 : Nat))) w2.heap.size TQ (mkQ e E2 m n) by rw [← mkQ_set1 e E]; exact KR3.out.set 1 _)
  have K24 := Lib.hid (K23.out.far (p := ⟨w2.heap.size, 1, none⟩) (by show w.heap.size + 1 + 1 ≠ w2.heap.size; omega) (.int .u64 (E2 : Nat)))
  have B4 := Lib.hid (B3.out.setCell (p := ⟨w2.heap.size, 1, none⟩) (by show w.heap.size ≤ w2.heap.size; omega) (.int .u64 (E2 : Nat)))
  go_wp2_with (first | (refine ld_q rfl _ rfl w2.heap.size rfl TQ _ K4.out rfl ?_) | (refine st_q rfl _ _ rfl (w.heap.size + 1 + 1) rfl TQ _ _ rfl K24.out rfl rfl (mkQ_one _ _ _ _) ?_; intro V5 s5))
  exact bodyPost_ret (v := .agg (mkQ e E2 m n)) (res_q rfl rfl s5.bk rfl) rfl ⟨rfl, B4.out.trans (s5.bel _ (by omega))⟩
theorem bstp_load (h : PgH) (L : Pg) (e : Nat) (f : Nat → Nat) (b : Nat → List Nat) (t : Nat) (w : World) (B : Nat) (he : Ech e) (hP : PgR w B h L) (hB : B ≤ w.heap.size) (hL : progB L = true) (hf : Good L f) (ht : t < L.length) (hc : canF L f t = true) (h4 : ∀ n, n < 2 → f (20 + n) ≤ 4) (hb9 : okB9 b 7) (hk1 : (smAt L t (f (3 + t))).k = 1) (p1 p2 : Nat) (hp1 : p1 < 3) (hp2 : p2 < 3) (hn' : (smAt L t (f (3 + t))).a = (p1 : Int)) (hm' : (smAt L t (f (3 + t))).b = (p2 : Int)) (r : Nat) (hr4 : r < 4) (hr : Hid (rdC (b (bfi e t p2)) p2 (f (15 + p2)) = r)) :
    Calls Try.prog 131 #[PgV h L, QV e f b, .int .i64 t] w fun en w' => en = .returned (QV e (upd (stepF L f t) (6 + (t * 3 + p1)) r) b) ∧ Below w.heap.size w w' := by
  have hk : putBeh (smAt L t (f (3 + t))) = false := by unfold putBeh; rw [hk1]; rfl
  obtain ⟨h31, h32⟩ := prog_len hL
  have ht3 : t < 3 := by omega
  obtain ⟨hml, hxok⟩ := can_lt hL hf ht hc
  have hev := Lib.hid (fun (V : World) (hP : PgR V B h L) (hB : B ≤ V.heap.size) => nextev_any h L f t V B hP hB hL hf ht hml)
  have SD := Lib.hid (fun (V : World) (hP : PgR V B h L) (hB : B ≤ V.heap.size) => stepped_any h L f t V B hP hB hL hf ht hc h4)
  unfold evV at hev
  obtain ⟨x, hx⟩ : ∃ x, smAt L t (f (3 + t)) = x := ⟨_, rfl⟩
  rw [hx] at hev hxok hk hk1 hn' hm'
  have hfd := ev_stmt (t : Int) (f (3 + t) : Nat) x.k x.a x.b x.c x.s
  have IP := Lib.hid (fun v => isput_any x v false (Lib.hid hk))
  have hnge : ¬ (L.length : Int) ≤ (t : Int) := by omega
  have hti : (t : Int) < (L.length : Int) := by omega
  have ek1 : (x.k == 1) = true := by rw [hk1]; rfl
  have HNa := Lib.hid hn'
  have HMb := Lib.hid hm'
  clear hk1 hn' hm' hx hk
  have RA := Lib.hid (fun v => readat_any e f b t p2 v he hf.ok hb9 ht3 hp2 r hr)
  have WR := Lib.hid (fun v => wreg_any (stepF L f t) t p1 r v (stepF_good hL hf ht hc h4).ok ht3 hp1 hr4)
  obtain ⟨E, hE⟩ : ∃ E, enc WS f = E := ⟨_, rfl⟩
  obtain ⟨E2, hE2⟩ : ∃ E2, enc WS (stepF L f t) = E2 := ⟨_, rfl⟩
  obtain ⟨E3, hE3⟩ : ∃ E3, enc WS (upd (stepF L f t) (6 + (t * 3 + p1)) r) = E3 := ⟨_, rfl⟩
  obtain ⟨m, hm⟩ : ∃ m, mk9 b = m := ⟨_, rfl⟩
  obtain ⟨n, hn⟩ : ∃ n : Nat → Nat, (fun i => bwC (b i)) = n := ⟨_, rfl⟩
  show Calls Try.prog 131 #[PgV h L, .agg (mkQ e (enc WS f) (mk9 b) fun i => bwC (b i)), .int .i64 t] w fun en w' => en = .returned (.agg (mkQ e (enc WS (upd (stepF L f t) (6 + (t * 3 + p1)) r)) (mk9 b) fun i => bwC (b i))) ∧ Below w.heap.size w w'
  have RA : Hid (∀ v, Calls Try.prog 77 #[.agg (mkQ e (enc WS f) (mk9 b) fun i => bwC (b i)), .int .i64 t, .int .i64 p2] v fun e w' => e = .returned (.int .i64 r) ∧ Below v.heap.size v w') := RA
  rw [hE, hm, hn] at RA
  rw [hE2, hE3] at WR
  rw [hE] at hev SD ⊢
  rw [hE2] at SD
  rw [hE3, hm, hn]
  clear hE hE2 hE3 hm hn
  clear hf hc hml h4 hr hb9
  obtain ⟨W, hW⟩ : ∃ W, W = ((w.alloc (.cells #[.slice h.A L.length h.c] 36)).alloc (.cells (mkQ e E m n) TQ)).alloc (.cells Z12 TQ) := ⟨_, rfl⟩
  have bW : Below w.heap.size w W := by rw [hW]; go_grown
  have sW : W.heap.size = w.heap.size + 1 + 1 + 1 := by rw [hW]; simp
  have k0 : Bk W w.heap.size 36 #[.slice h.A L.length h.c] := by rw [hW]; exact ((Bk.new w _ _).alloc _).alloc _
  have k1 : Bk W (w.heap.size + 1) TQ (mkQ e E m n) := by
    rw [hW]; have := (Bk.new (w.alloc (.cells #[.slice h.A L.length h.c] 36)) (mkQ e E m n) TQ).alloc (.cells Z12 TQ)
    rwa [World.size_alloc] at this
  have k2 : Bk W (w.heap.size + 1 + 1) TQ Z12 := by
    rw [hW]; have := Bk.new ((w.alloc (.cells #[.slice h.A L.length h.c] 36)).alloc (.cells (mkQ e E m n) TQ)) Z12 TQ
    rwa [World.size_alloc, World.size_alloc] at this
  have P0 := Lib.hid (hP.below bW hB)
  have K0 := Lib.hid k0
  have K1 := Lib.hid k1
  have K2 := Lib.hid k2
  have B0 := Lib.hid bW
  have sWa := Nat.le_of_eq sW
  have sWb := Nat.le_of_eq sW.symm
  have HW := Lib.hid hW
  have cP : W.cell? ⟨w.heap.size, 0, none⟩ = some (.slice h.A L.length h.c) := k0.cell 0
  have c1 : W.cell? ⟨w.heap.size + 1, 1, none⟩ = some (.int .u64 (E : Nat)) := (k1.cell 1).trans (mkQ_1 _ _ _ _)
  have lP := k0.lt
  have lQ := k1.lt
  clear hW bW sW k0 k1 k2 hP
  go_enter Try.func131, Try.ntmps131
  go_wp2_with (rw [← HW.out])
  refine (hev.out W P0.out (by omega)).mono ?_
  rintro en w1 ⟨rfl, hb1⟩
  have B1 := Lib.hid (below_on B0.out hb1)
  have P1 := Lib.hid (P0.out.below hb1 (by omega))
  have K01 := Lib.hid (K0.out.below hb1 K0.out.lt)
  have K11 := Lib.hid (K1.out.below hb1 K1.out.lt)
  have K21 := Lib.hid (K2.out.below hb1 K2.out.lt)
  have z1 := hb1.size
  clear hb1 cP c1 lP lQ
  go_wp2_with fail
  obtain ⟨V, hV⟩ : ∃ V, V = w1.alloc (.cells #[.int .i64 x.k, .int .i64 x.a, .int .i64 x.b, .int .i64 x.c, .bool x.s] 119) := ⟨_, rfl⟩
  rw [← hV]
  have bV : Below w1.heap.size w1 V := by rw [hV]; exact (Below.refl _ _).alloc (Nat.le_refl _) _
  have kX : Bk V w1.heap.size 119 #[.int .i64 x.k, .int .i64 x.a, .int .i64 x.b, .int .i64 x.c, .bool x.s] := by rw [hV]; exact Bk.new _ _ _
  have zV := bV.size
  refine (IP.out _).mono ?_
  rintro en w2 ⟨rfl, hb2⟩
  have b12 : Below w1.heap.size w1 w2 := bV.trans (hb2.mono zV)
  have B2 := Lib.hid (B1.out.trans (b12.mono (by omega)))
  have P2 := Lib.hid (P1.out.below b12 (by omega))
  have K02 := Lib.hid (K01.out.below b12 K01.out.lt)
  have K12 := Lib.hid (K11.out.below b12 K11.out.lt)
  have K22 := Lib.hid (K21.out.below b12 K21.out.lt)
  have KX2 := Lib.hid (kX.below hb2 kX.lt)
  have z2 := b12.size
  have lx := KX2.out.lt
  clear hV bV kX hb2 b12 K0 K1 K2 K01 K11 K21 hfd
  have cP : w2.cell? ⟨w.heap.size, 0, none⟩ = some (.slice h.A L.length h.c) := K02.out.cell 0
  have c1 : w2.cell? ⟨w.heap.size + 1, 1, none⟩ = some (.int .u64 (E : Nat)) := (K12.out.cell 1).trans (mkQ_1 _ _ _ _)
  have lP := K02.out.lt
  have lQ := K12.out.lt
  go_wp2_with (first | (refine ld_q rfl _ rfl (w.heap.size + 1) rfl TQ _ K12.out rfl ?_) | (refine st_q rfl _ _ rfl w2.heap.size rfl TQ Z12 _ rfl (Bk.new _ _ _) rfl rfl (mkQ_one _ _ _ _) ?_; intro V3 s3; have b23 : Below w2.heap.size w2 V3 := ((Below.refl _ _).alloc (Nat.le_refl _) _).trans (s3.bel _ (Nat.le_refl _)); have z23 := b23.size; have cP3 : V3.cell? ⟨w.heap.size, 0, none⟩ = some (.slice h.A L.length h.c) := (K02.out.below b23 K02.out.lt).cell 0; have c13 : V3.cell? ⟨w.heap.size + 1, 1, none⟩ = some (.int .u64 (E : Nat)) := ((K12.out.below b23 K12.out.lt).cell 1).trans (mkQ_1 _ _ _ _)))
  have zV3 : w2.heap.size < V3.heap.size := s3.bk.lt
  refine (SD.out V3 (P2.out.below b23 (by omega)) (by omega)).mono ?_
  rintro en w3 ⟨rfl, hb3⟩
  have b33 : Below w2.heap.size w2 w3 := b23.trans (hb3.mono z23)
  have B3 := Lib.hid (B2.out.trans (b33.mono (by omega)))
  have K13 := Lib.hid (K12.out.below b33 K12.out.lt)
  have K23 := Lib.hid (K22.out.below b33 K22.out.lt)
  have KX3 := Lib.hid (KX2.out.below b33 KX2.out.lt)
  have KR3 := Lib.hid (s3.bk.below hb3 s3.bk.lt)
  have z3 := b33.size
  have lr := KR3.out.lt
  clear s3 hb3 b33 b23 cP3 c13 cP c1 P2 K02 K12 K22 KX2
  have fR := KR3.out.free 1
  have cR : w3.cell? ⟨w2.heap.size, 1, none⟩ = some (.int .u64 (E : Nat)) := (KR3.out.cell 1).trans (mkQ_1 _ _ _ _)
  have ck : w3.cell? ⟨w1.heap.size, 0, none⟩ = some (.int .i64 x.k) := KX3.out.cell 0
  have lx3 := KX3.out.lt
  clear SD
  have K4 := Lib.hid (show Bk (w3.setCell ⟨w2.heap.size, 1, none⟩ (.int .u64 (E2 : Nat))) w2.heap.size TQ (mkQ e E2 m n) by rw [← mkQ_set1 e E]; exact KR3.out.set 1 _)
  have K24 := Lib.hid (K23.out.far (p := ⟨w2.heap.size, 1, none⟩) (by show w.heap.size + 1 + 1 ≠ w2.heap.size; omega) (.int .u64 (E2 : Nat)))
  have B4 := Lib.hid (B3.out.setCell (p := ⟨w2.heap.size, 1, none⟩) (by show w.heap.size ≤ w2.heap.size; omega) (.int .u64 (E2 : Nat)))
  go_wp2_with fail
  obtain ⟨V4, hV⟩ : ∃ V, V = w3.setCell ⟨w2.heap.size, 1, none⟩ (.int .u64 (E2 : Nat)) := ⟨_, rfl⟩
  rw [← hV]
  rw [← hV] at K4 K24 B4
  have KX4 := Lib.hid (show Bk V4 w1.heap.size 119 #[.int .i64 x.k, .int .i64 (p1 : Int), .int .i64 (p2 : Int), .int .i64 x.c, .bool x.s] by rw [hV, ← HNa.out, ← HMb.out]; exact KX3.out.far (p := ⟨w2.heap.size, 1, none⟩) (by show w1.heap.size ≠ w2.heap.size; omega) _)
  have K14 := Lib.hid (show Bk V4 (w.heap.size + 1) TQ (mkQ e E m n) by rw [hV]; exact K13.out.far (p := ⟨w2.heap.size, 1, none⟩) (by show w.heap.size + 1 ≠ w2.heap.size; omega) _)
  clear hV fR cR ck K13 K23 KX3 KR3
  have l4 := K4.out.lt
  have l14 := K14.out.lt
  have lx4 := KX4.out.lt
  have HS := Lib.hid (fr_none V4)
  haveI hne := Nonempty.intro (Ws.mk _ (fr_none V4))
  have g0 : ∀ y : Ws (Fr V4 []), y.val.cell? ⟨w2.heap.size, 1, none⟩ = some (.int .u64 (E2 : Nat)) := Ws.same (bs := []) l4 ((K4.out.cell 1).trans (mkQ_1 _ _ _ _))
  have g1 : ∀ y : Ws (Fr V4 []), y.val.cell? ⟨w1.heap.size, 1, none⟩ = some (.int .i64 (p1 : Int)) := Ws.same (bs := []) lx4 (KX4.out.cell 1)
  have g2 : ∀ y : Ws (Fr V4 []), y.val.cell? ⟨w1.heap.size, 2, none⟩ = some (.int .i64 (p2 : Int)) := Ws.same (bs := []) lx4 (KX4.out.cell 2)
  have GK := Lib.hid (fun w' (h : In (Fr V4 []) w') => (show Bk w' (w.heap.size + 1) TQ (mkQ e E m n) from by obtain ⟨x, rfl⟩ := h; exact K14.out.below x.ok.below l14))
  refine region_tail (C := In (Fr V4 [])) 12 (by kernel_rfl) (In.mk HS.out.drew) ?_
  simp only [List.take_succ_cons, List.take_zero, List.drop_succ_cons, List.drop_zero]
  repeat (first | (refine qd_q rfl _ rfl (w.heap.size + 1) rfl TQ _ rfl GK.out ?_; simp only [Act.put, List.setIfInBounds_toArray, List.set_cons_succ, List.set_cons_zero]) | go_big_quiet_step ((first | (go_at_call 77; exact call_in (RA.out _)) | (go_at_call 167; exact call_in (WR.out _)))))
  refine wpQuiet_nil ?_
  rintro _ ⟨y5, rfl⟩
  have K5 := Lib.hid (K4.out.below y5.ok.below l4)
  have K25 := Lib.hid (K24.out.below y5.ok.below K24.out.lt)
  have B5 := Lib.hid (below_on B4.out y5.ok.below)
  have c5 : y5.val.cell? ⟨w2.heap.size, 1, none⟩ = some (.int .u64 (E2 : Nat)) := g0 y5
  have f5 := K5.out.free 1
  have l5 := K5.out.lt
  have K6 := Lib.hid (show Bk (y5.val.setCell ⟨w2.heap.size, 1, none⟩ (.int .u64 (E3 : Nat))) w2.heap.size TQ (mkQ e E3 m n) by rw [← mkQ_set1 e E2]; exact K5.out.set 1 _)
  have K26 := Lib.hid (K25.out.far (p := ⟨w2.heap.size, 1, none⟩) (by show w.heap.size + 1 + 1 ≠ w2.heap.size; omega) (.int .u64 (E3 : Nat)))
  have B6 := Lib.hid (B5.out.setCell (p := ⟨w2.heap.size, 1, none⟩) (by show w.heap.size ≤ w2.heap.size; omega) (.int .u64 (E3 : Nat)))
  clear g0 g1 g2
  go_wp2_with (first | (refine ld_q rfl _ rfl w2.heap.size rfl TQ _ K6.out rfl ?_) | (refine st_q rfl _ _ rfl (w.heap.size + 1 + 1) rfl TQ _ _ rfl K26.out rfl rfl (mkQ_one _ _ _ _) ?_; intro V5 s5))
  exact bodyPost_ret (v := .agg (mkQ e E3 m n)) (res_q rfl rfl s5.bk rfl) rfl ⟨rfl, B6.out.trans (s5.bel _ (by omega))⟩
end Go.Proofs.Ytnadihepgmbhaaa
namespace Go.Proofs.Ytnadihepgmbhaaa
open Go.RowKit Pl Go.BigFrame
set_option maxHeartbeats 4000000
set_option maxRecDepth 100000
set_option linter.unusedVariables false

theorem sc_q {w : World} {g : Nat} {t : TypeId} {q0 q : Array Value} (hb : Bk w g t q0) (h0 : q0.size = q.size) (h1 : q.all (·.oneCell') = true) : (storeCells ⟨g, 0, none⟩ q.toList).run Try.prog w = .ok () (w.setCells g 0 q.toList) := by
  have := run_storeCells_cells (P := Try.prog) g 0 q.toList 0 w (fun j hj => by
    have := (hb.there (n := q0.size) (Nat.le_refl _) j (by simp at hj; omega)).1
    simpa using this) (fun j hj => by simpa using hb.free j) (fun v hv => (Array.all_eq_true_iff_forall_mem.1 h1) v (by simpa using hv))
  simpa using this
/-- Where the words behind a store lie. -/
def GotV (w : World) (q : Array Value) (sa : Value) (wx : World) : Prop := ∃ g, sa = .pointer (some ⟨g, 0, none⟩) ∧ w.heap.size ≤ g ∧ Bk wx g TQ q ∧ Below w.heap.size w wx
theorem gotV_late {w v3 : World} {q : Array Value} (hb : Below w.heap.size w v3) (hs : q.size = 12) : GotV w q (.pointer (some ⟨v3.heap.size, 0, none⟩)) ((v3.alloc (.cells Z12 TQ)).setCells v3.heap.size 0 q.toList) := by
  have s := stored (Bk.new v3 Z12 TQ) (q := q) (by rw [hs]; rfl)
  exact ⟨_, rfl, hb.size, s.bk, (hb.alloc hb.size _).trans (s.bel _ hb.size)⟩
theorem gotV_early {w v3 : World} {g : Nat} {q : Array Value} (hb : Below w.heap.size w v3) (hk : Bk v3 g TQ Z12) (hg : w.heap.size ≤ g) (hs : q.size = 12) : GotV w q (.pointer (some ⟨g, 0, none⟩)) (v3.setCells g 0 q.toList) := by
  have s := stored hk (q := q) (by rw [hs]; rfl)
  exact ⟨_, rfl, hg, s.bk, hb.trans (s.bel _ hg)⟩
theorem bstp_put (h : PgH) (L : Pg) (e : Nat) (f : Nat → Nat) (b : Nat → List Nat) (t : Nat) (w : World) (B : Nat) (he : Ech e) (hP : PgR w B h L) (hB : B ≤ w.heap.size) (hL : progB L = true) (hf : Good L f) (ht : t < L.length) (hc : canF L f t = true) (hb9 : okB9 b 7) (hk : putBeh (smAt L t (f (3 + t))) = true) (p1 s1 : Nat) (hp1 : p1 < 3) (hs1 : s1 < 4) (hn' : (smAt L t (f (3 + t))).a = (p1 : Int)) (hval : valB (smAt L t (f (3 + t))).b (smAt L t (f (3 + t))).c = true) (hsum : Hid (sumF f t (smAt L t (f (3 + t))).b (smAt L t (f (3 + t))).c = s1)) (g : Nat → Nat) (hg : Hid (goF L f t (smAt L t (f (3 + t))) = g)) :
    Calls Try.prog 131 #[PgV h L, QV e f b, .int .i64 t] w fun en w' => en = .returned (QV e g (updB b (bfi e t p1) (b (bfi e t p1) ++ [p1 * 4 + s1]))) ∧ Below w.heap.size w w' := by
  obtain ⟨h31, h32⟩ := prog_len hL
  have ht3 : t < 3 := by omega
  obtain ⟨hml, hxok⟩ := can_lt hL hf ht hc
  have hev := Lib.hid (fun (V : World) (hP : PgR V B h L) (hB : B ≤ V.heap.size) => nextev_any h L f t V B hP hB hL hf ht hml)
  unfold evV at hev
  obtain ⟨x, hx⟩ : ∃ x, smAt L t (f (3 + t)) = x := ⟨_, rfl⟩
  rw [hx] at hev hxok hk hn' hval hsum hg
  have hfd := ev_stmt (t : Int) (f (3 + t) : Nat) x.k x.a x.b x.c x.s
  have IP := Lib.hid (fun v => isput_any x v true (Lib.hid hk))
  have SU := Lib.hid (fun v => sum_any f t x.b x.c v hf.ok ht3 hval s1 hsum)
  have GO := Lib.hid (fun (V : World) (hP : PgR V B h L) (hB : B ≤ V.heap.size) => goneon_any h L f t x V B hP hB hL hf ht hml hxok g hg)
  have hnge : ¬ (L.length : Int) ≤ (t : Int) := by omega
  have hti : (t : Int) < (L.length : Int) := by omega
  have HNa := Lib.hid hn'
  have hkb' := bfi_lt (p := p1) he ht3
  obtain ⟨kb, hkb0⟩ : ∃ kb, bfi e t p1 = kb := ⟨_, rfl⟩
  have BF := Lib.hid (fun E m n v => bff_raw e E m t p1 n v he ht3 hp1)
  rw [hkb0] at BF hkb' ⊢
  have hkb : kb < 9 := hkb'
  obtain ⟨hok, hlen⟩ := hb9 kb hkb
  have PB := Lib.hid (fun v => (putb_any (b kb) p1 s1 v hok hlen hp1 hs1).mono fun e w' (h : _ ∧ v = w') => (⟨h.1, by rw [← h.2]; exact Below.refl _ _⟩ : e = Ending.returned (.int .u64 (bwC (b kb ++ [p1 * 4 + s1]) : Nat)) ∧ Below v.heap.size v w'))
  have WB := Lib.hid (fun v => withb_any e f b kb (b kb ++ [p1 * 4 + s1]) v hkb)
  have hki : (kb : Int) < 9 := by omega
  obtain ⟨E, hE⟩ : ∃ E, enc WS f = E := ⟨_, rfl⟩
  obtain ⟨E2, hE2⟩ : ∃ E2, enc WS g = E2 := ⟨_, rfl⟩
  obtain ⟨m, hm⟩ : ∃ m, mk9 b = m := ⟨_, rfl⟩
  obtain ⟨m2, hm2⟩ : ∃ m, mk9 (updB b kb (b kb ++ [p1 * 4 + s1])) = m := ⟨_, rfl⟩
  obtain ⟨n2, hn2⟩ : ∃ n : Nat → Nat, (fun i => bwC (updB b kb (b kb ++ [p1 * 4 + s1]) i)) = n := ⟨_, rfl⟩
  obtain ⟨n, hn⟩ : ∃ n : Nat → Nat, (fun i => bwC (b i)) = n := ⟨_, rfl⟩
  obtain ⟨Y, hY⟩ : ∃ Y, bwC (b kb ++ [p1 * 4 + s1]) = Y := ⟨_, rfl⟩
  have hnk : bwC (b kb) = n kb := by rw [← hn]
  show Calls Try.prog 131 #[PgV h L, .agg (mkQ e (enc WS f) (mk9 b) fun i => bwC (b i)), .int .i64 t] w fun en w' => en = .returned (.agg (mkQ e (enc WS g) (mk9 (updB b kb (b kb ++ [p1 * 4 + s1]))) fun i => bwC (updB b kb (b kb ++ [p1 * 4 + s1]) i))) ∧ Below w.heap.size w w'
  have WB : Hid (∀ v, Calls Try.prog 114 #[.agg (mkQ e (enc WS f) (mk9 b) fun i => bwC (b i)), .int .i64 kb, .int .u64 (bwC (b kb ++ [p1 * 4 + s1]) : Nat)] v fun en w' => en = .returned (.agg (mkQ e (enc WS f) (mk9 (updB b kb (b kb ++ [p1 * 4 + s1]))) fun i => bwC (updB b kb (b kb ++ [p1 * 4 + s1]) i))) ∧ Below v.heap.size v w') := WB
  rw [hE, hm, hm2, hn, hn2, hY] at WB
  rw [hY, hnk] at PB
  rw [hE] at hev SU GO ⊢
  rw [hE2] at GO ⊢
  rw [hm, hm2, hn, hn2]
  clear hE hE2 hm hm2 hn hn2 hY hnk
  clear hf hc hml hb9 hx hk hn' hval hsum hkb0 hkb' hok hlen hxok
  obtain ⟨W, hW⟩ : ∃ W, W = ((w.alloc (.cells #[.slice h.A L.length h.c] 36)).alloc (.cells (mkQ e E m n) TQ)).alloc (.cells Z12 TQ) := ⟨_, rfl⟩
  have bW : Below w.heap.size w W := by rw [hW]; go_grown
  have sW : W.heap.size = w.heap.size + 1 + 1 + 1 := by rw [hW]; simp
  have k0 : Bk W w.heap.size 36 #[.slice h.A L.length h.c] := by rw [hW]; exact ((Bk.new w _ _).alloc _).alloc _
  have k1 : Bk W (w.heap.size + 1) TQ (mkQ e E m n) := by
    rw [hW]; have := (Bk.new (w.alloc (.cells #[.slice h.A L.length h.c] 36)) (mkQ e E m n) TQ).alloc (.cells Z12 TQ)
    rwa [World.size_alloc] at this
  have k2 : Bk W (w.heap.size + 1 + 1) TQ Z12 := by
    rw [hW]; have := Bk.new ((w.alloc (.cells #[.slice h.A L.length h.c] 36)).alloc (.cells (mkQ e E m n) TQ)) Z12 TQ
    rwa [World.size_alloc, World.size_alloc] at this
  have P0 := Lib.hid (hP.below bW hB)
  have K0 := Lib.hid k0
  have K1 := Lib.hid k1
  have K2 := Lib.hid k2
  have B0 := Lib.hid bW
  have sWa := Nat.le_of_eq sW
  have sWb := Nat.le_of_eq sW.symm
  have HW := Lib.hid hW
  have cP : W.cell? ⟨w.heap.size, 0, none⟩ = some (.slice h.A L.length h.c) := k0.cell 0
  have c1 : W.cell? ⟨w.heap.size + 1, 1, none⟩ = some (.int .u64 (E : Nat)) := (k1.cell 1).trans (mkQ_1 _ _ _ _)
  have lP := k0.lt
  have lQ := k1.lt
  clear hW bW sW k0 k1 k2 hP
  go_enter Try.func131, Try.ntmps131
  go_wp2_with (rw [← HW.out])
  refine (hev.out W P0.out (by omega)).mono ?_
  rintro en w1 ⟨rfl, hb1⟩
  have B1 := Lib.hid (below_on B0.out hb1)
  have P1 := Lib.hid (P0.out.below hb1 (by omega))
  have K01 := Lib.hid (K0.out.below hb1 K0.out.lt)
  have K11 := Lib.hid (K1.out.below hb1 K1.out.lt)
  have K21 := Lib.hid (K2.out.below hb1 K2.out.lt)
  have z1 := hb1.size
  clear hb1 cP c1 lP lQ
  go_wp2_with fail
  obtain ⟨V, hV⟩ : ∃ V, V = w1.alloc (.cells #[.int .i64 x.k, .int .i64 x.a, .int .i64 x.b, .int .i64 x.c, .bool x.s] 119) := ⟨_, rfl⟩
  rw [← hV]
  have bV : Below w1.heap.size w1 V := by rw [hV]; exact (Below.refl _ _).alloc (Nat.le_refl _) _
  have kX : Bk V w1.heap.size 119 #[.int .i64 x.k, .int .i64 x.a, .int .i64 x.b, .int .i64 x.c, .bool x.s] := by rw [hV]; exact Bk.new _ _ _
  have zV := bV.size
  refine (IP.out _).mono ?_
  rintro en u2 ⟨rfl, hb2⟩
  have b12 : Below w1.heap.size w1 u2 := bV.trans (hb2.mono zV)
  have B2 := Lib.hid (B1.out.trans (b12.mono (by omega)))
  have P2 := Lib.hid (P1.out.below b12 (by omega))
  have K02 := Lib.hid (K01.out.below b12 K01.out.lt)
  have K12 := Lib.hid (K11.out.below b12 K11.out.lt)
  have K22 := Lib.hid (K21.out.below b12 K21.out.lt)
  have KX2 := Lib.hid (kX.below hb2 kX.lt)
  have z2 := b12.size
  have lx := KX2.out.lt
  clear hV bV kX hb2 b12 K0 K1 K2 K01 K11 K21 hfd
  have ca : u2.cell? ⟨w1.heap.size, 1, none⟩ = some (.int .i64 (p1 : Int)) := by rw [← HNa.out]; exact KX2.out.cell 1
  have lP := K02.out.lt
  have lQ := K12.out.lt
  go_wp2_with (refine ld_q rfl _ rfl (w.heap.size + 1) rfl TQ _ K12.out rfl ?_)
  refine (BF.out E m n u2).mono ?_
  rintro en w2 ⟨rfl, hb3⟩
  have B3 := Lib.hid (below_on B2.out hb3)
  have z3 := hb3.size
  have P3 := Lib.hid (P2.out.below hb3 (by omega))
  have K03 := Lib.hid (K02.out.below hb3 K02.out.lt)
  have K13 := Lib.hid (K12.out.below hb3 K12.out.lt)
  have K23 := Lib.hid (K22.out.below hb3 K22.out.lt)
  have KX3' := KX2.out.below hb3 KX2.out.lt
  rw [HNa.out] at KX3'
  have KX3 := Lib.hid KX3'
  clear hb3 KX3' ca P2 K02 K12 K22 KX2 lP lQ lx
  go_wp2_with fail
  have lx := KX3.out.lt
  have lQ := K13.out.lt
  have allS : ∀ w', Below w2.heap.size w2 w' → (Below w2.heap.size w2 w' ∧ w'.cell? ⟨w.heap.size + 1, 0, none⟩ = some (.int .i64 (e : Nat)) ∧ w'.cell? ⟨w.heap.size + 1, 1, none⟩ = some (.int .u64 (E : Nat)) ∧ w'.cell? ⟨w.heap.size + 1, 2, none⟩ = some (.int .u64 (n 0 : Nat)) ∧ w'.cell? ⟨w.heap.size + 1, 3, none⟩ = some (.int .u64 (n 1 : Nat)) ∧ w'.cell? ⟨w.heap.size + 1, 4, none⟩ = some (.int .u64 (n 2 : Nat)) ∧ w'.cell? ⟨w.heap.size + 1, 5, none⟩ = some (.int .u64 (n 3 : Nat)) ∧ w'.cell? ⟨w.heap.size + 1, 6, none⟩ = some (.int .u64 (n 4 : Nat)) ∧ w'.cell? ⟨w.heap.size + 1, 7, none⟩ = some (.int .u64 (n 5 : Nat)) ∧ w'.cell? ⟨w.heap.size + 1, 8, none⟩ = some (.int .u64 (n 6 : Nat)) ∧ w'.cell? ⟨w.heap.size + 1, 9, none⟩ = some (.int .u64 (n 7 : Nat)) ∧ w'.cell? ⟨w.heap.size + 1, 10, none⟩ = some (.int .u64 (n 8 : Nat)) ∧ w'.cell? ⟨w.heap.size + 1, 11, none⟩ = some (.int .u64 (m : Nat)) ∧ w'.cell? ⟨w.heap.size + 1, 2 + kb, none⟩ = some (.int .u64 (n kb : Nat)) ∧ w'.cell? ⟨w1.heap.size, 1, none⟩ = some (.int .i64 (p1 : Int)) ∧ w'.cell? ⟨w1.heap.size, 2, none⟩ = some (.int .i64 x.b) ∧ w'.cell? ⟨w1.heap.size, 3, none⟩ = some (.int .i64 x.c)) := fun w' hb => ⟨hb, (K13.out.below hb K13.out.lt).cell 0, (K13.out.below hb K13.out.lt).cell 1, (K13.out.below hb K13.out.lt).cell 2, (K13.out.below hb K13.out.lt).cell 3, (K13.out.below hb K13.out.lt).cell 4, (K13.out.below hb K13.out.lt).cell 5, (K13.out.below hb K13.out.lt).cell 6, (K13.out.below hb K13.out.lt).cell 7, (K13.out.below hb K13.out.lt).cell 8, (K13.out.below hb K13.out.lt).cell 9, (K13.out.below hb K13.out.lt).cell 10, (K13.out.below hb K13.out.lt).cell 11, ((K13.out.below hb K13.out.lt).cell (2 + kb)).trans (mkQ_k _ _ _ _ hkb), (KX3.out.below hb KX3.out.lt).cell 1, (KX3.out.below hb KX3.out.lt).cell 2, (KX3.out.below hb KX3.out.lt).cell 3⟩
  have AllS := Lib.hid allS
  clear allS
  have tok1 : True := trivial
  have tok2 : True := trivial
  have tok3 : True := trivial
  go_cut [10] (fun sa wx => GotV w2 (mkQ e E m2 n2) sa wx)
  case first =>
    go_region_held3 (fun w' => Below w2.heap.size w2 w' ∧ w'.cell? ⟨w.heap.size + 1, 0, none⟩ = some (.int .i64 (e : Nat)) ∧ w'.cell? ⟨w.heap.size + 1, 1, none⟩ = some (.int .u64 (E : Nat)) ∧ w'.cell? ⟨w.heap.size + 1, 2, none⟩ = some (.int .u64 (n 0 : Nat)) ∧ w'.cell? ⟨w.heap.size + 1, 3, none⟩ = some (.int .u64 (n 1 : Nat)) ∧ w'.cell? ⟨w.heap.size + 1, 4, none⟩ = some (.int .u64 (n 2 : Nat)) ∧ w'.cell? ⟨w.heap.size + 1, 5, none⟩ = some (.int .u64 (n 3 : Nat)) ∧ w'.cell? ⟨w.heap.size + 1, 6, none⟩ = some (.int .u64 (n 4 : Nat)) ∧ w'.cell? ⟨w.heap.size + 1, 7, none⟩ = some (.int .u64 (n 5 : Nat)) ∧ w'.cell? ⟨w.heap.size + 1, 8, none⟩ = some (.int .u64 (n 6 : Nat)) ∧ w'.cell? ⟨w.heap.size + 1, 9, none⟩ = some (.int .u64 (n 7 : Nat)) ∧ w'.cell? ⟨w.heap.size + 1, 10, none⟩ = some (.int .u64 (n 8 : Nat)) ∧ w'.cell? ⟨w.heap.size + 1, 11, none⟩ = some (.int .u64 (m : Nat)) ∧ w'.cell? ⟨w.heap.size + 1, 2 + kb, none⟩ = some (.int .u64 (n kb : Nat)) ∧ w'.cell? ⟨w1.heap.size, 1, none⟩ = some (.int .i64 (p1 : Int)) ∧ w'.cell? ⟨w1.heap.size, 2, none⟩ = some (.int .i64 x.b) ∧ w'.cell? ⟨w1.heap.size, 3, none⟩ = some (.int .i64 x.c)) (first | (go_split_ands; refine AllS.out _ ?_; (first | (exact set_below _ (by omega) _ 0 hBv3) | (exact set_below _ hBv3.size _ 0 (hBv3.alloc hBv3.size _)) | (go_grown; done))) | (refine AllS.out _ ?_; (first | (exact set_below _ (by omega) _ 0 hBv3) | (exact set_below _ hBv3.size _ 0 (hBv3.alloc hBv3.size _)) | (go_grown; done)))) (first | (go_at_call 164; clear tok1; go_split_ands; refine (SU.out _).mono ?_; rintro en v1 ⟨rfl, hv1⟩; obtain ⟨hcc1, hff1⟩ := bcell hv1; have hBv1 : Below w2.heap.size w2 v1 := below_on (by go_grown) hv1; have hzv1 := hv1.size; (try simp at hzv1); have hy1 := hBv1.size; (try (have hsv1 : w2.heap.size < v1.heap.size := (by omega))); have kv1 := Lib.hid hv1; clear hv1) | (go_at_call 157; clear tok2; go_split_ands; refine (PB.out _).mono ?_; rintro en v2 ⟨rfl, hv2⟩; obtain ⟨hcc2, hff2⟩ := bcell hv2; have hBv2 : Below w2.heap.size w2 v2 := below_on (by go_grown) hv2; have hzv2 := hv2.size; (try simp at hzv2); have hy2 := hBv2.size; (try (have hsv2 : w2.heap.size < v2.heap.size := (by omega))); (try (have hsk1_2 : v1.heap.size < v2.heap.size := (by omega))); have kv2 := Lib.hid hv2; clear hv2) | (go_at_call 114; clear tok3; go_split_ands; refine (WB.out _).mono ?_; rintro en v3 ⟨rfl, hv3⟩; obtain ⟨hcc3, hff3⟩ := bcell hv3; have hBv3 : Below w2.heap.size w2 v3 := below_on (by go_grown) hv3; have hzv3 := hv3.size; (try simp at hzv3); have hy3 := hBv3.size; (try (have hsv3 : w2.heap.size < v3.heap.size := (by omega))); (try (have hsk1_3 : v1.heap.size < v3.heap.size := (by omega))); (try (have hsk2_3 : v2.heap.size < v3.heap.size := (by omega))); have hsl := sc_q (w := v3.alloc (.cells Z12 TQ)) (g := v3.heap.size) (q := mkQ e E m2 n2) (Bk.new v3 Z12 TQ) rfl (mkQ_one _ _ _ _); have hse := fun g (hk : Bk v3 g TQ Z12) => sc_q (q := mkQ e E m2 n2) hk rfl (mkQ_one _ _ _ _); (try (have hsC := hse _ ((Bk.new v2 Z12 TQ).below hv3 (by simp)))); (try (have hsB := hse _ (((Bk.new v1 Z12 TQ).below kv2.out (by simp)).below hv3 (by omega)))); (try (have hsA := hse _ ((((vbk_drew (Bk.new w2 Z12 TQ)).below kv1.out (by show _ < (World.alloc _ _).heap.size; simp)).below kv2.out (by omega)).below hv3 (by omega)))); clear hse; have kv3 := Lib.hid hv3; clear hv3))
    all_goals go_wp2_with fail
    all_goals go_meet
    · exact gotV_late hBv3 rfl
    · exact gotV_early hBv3 ((Bk.new v2 Z12 TQ).below kv3.out (by simp)) hBv2.size rfl
    · exact gotV_early hBv3 (((Bk.new v1 Z12 TQ).below kv2.out (by simp)).below kv3.out (by omega)) hBv1.size rfl
    · exact gotV_early hBv3 ((((vbk_drew (Bk.new w2 Z12 TQ)).below kv1.out (by show _ < (World.alloc _ _).heap.size; simp)).below kv2.out (by omega)).below kv3.out (by omega)) (Nat.le_refl _) rfl
  clear AllS
  obtain ⟨gb, rfl, hgb, hkq, hby⟩ := hcut
  obtain ⟨y, rfl⟩ : ∃ V, V = wc := ⟨_, rfl⟩
  have B4 := Lib.hid (below_on B3.out hby)
  have P4 := Lib.hid (P3.out.below hby (by omega))
  have K14 := K13.out.below hby K13.out.lt
  have K04 := K03.out.below hby K03.out.lt
  have K24 := Lib.hid (K23.out.below hby K23.out.lt)
  have KX4 := KX3.out.below hby KX3.out.lt
  rw [← HNa.out] at KX4
  have z4 := hby.size
  have KQ := Lib.hid hkq
  have cP : y.cell? ⟨w.heap.size, 0, none⟩ = some (.slice h.A L.length h.c) := K04.cell 0
  have c1 : y.cell? ⟨w.heap.size + 1, 1, none⟩ = some (.int .u64 (E : Nat)) := (K14.cell 1).trans (mkQ_1 _ _ _ _)
  have x0 : y.cell? ⟨w1.heap.size, 0, none⟩ = some (.int .i64 x.k) := KX4.cell 0
  have x1 : y.cell? ⟨w1.heap.size, 1, none⟩ = some (.int .i64 x.a) := KX4.cell 1
  have x2 : y.cell? ⟨w1.heap.size, 2, none⟩ = some (.int .i64 x.b) := KX4.cell 2
  have x3 : y.cell? ⟨w1.heap.size, 3, none⟩ = some (.int .i64 x.c) := KX4.cell 3
  have x4 : y.cell? ⟨w1.heap.size, 4, none⟩ = some (.bool x.s) := KX4.cell 4
  have lP4 := K04.lt
  have lQ4 := K14.lt
  have lx4 := KX4.lt
  clear hby hkq K14 K04 KX4
  go_wp2_with fail
  refine (GO.out y P4.out (by omega)).mono ?_
  rintro en w5 ⟨rfl, hb5⟩
  have B5 := Lib.hid (below_on B4.out hb5)
  have K25 := Lib.hid (K24.out.below hb5 K24.out.lt)
  have KQ5 := Lib.hid (KQ.out.below hb5 KQ.out.lt)
  have z5 := hb5.size
  clear hb5 cP c1 x0 x1 x2 x3 x4 lP4 lQ4 lx4
  have c5 : w5.cell? ⟨gb, 1, none⟩ = some (.int .u64 (E : Nat)) := (KQ5.out.cell 1).trans (mkQ_1 _ _ _ _)
  have f5 := KQ5.out.free 1
  have l5 := KQ5.out.lt
  have K6 := Lib.hid (show Bk (w5.setCell ⟨gb, 1, none⟩ (.int .u64 (E2 : Nat))) gb TQ (mkQ e E2 m2 n2) by rw [← mkQ_set1 e E]; exact KQ5.out.set 1 _)
  have K26 := Lib.hid (K25.out.far (p := ⟨gb, 1, none⟩) (by show w.heap.size + 1 + 1 ≠ gb; omega) (.int .u64 (E2 : Nat)))
  have B6 := Lib.hid (B5.out.setCell (p := ⟨gb, 1, none⟩) (by show w.heap.size ≤ gb; omega) (.int .u64 (E2 : Nat)))
  go_wp2_with (first | (refine ld_q rfl _ rfl gb rfl TQ _ K6.out rfl ?_) | (refine st_q rfl _ _ rfl (w.heap.size + 1 + 1) rfl TQ _ _ rfl K26.out rfl rfl (mkQ_one _ _ _ _) ?_; intro V5 s5))
  exact bodyPost_ret (v := .agg (mkQ e E2 m2 n2)) (res_q rfl rfl s5.bk rfl) rfl ⟨rfl, B6.out.trans (s5.bel _ (by omega))⟩
end Go.Proofs.Ytnadihepgmbhaaa
