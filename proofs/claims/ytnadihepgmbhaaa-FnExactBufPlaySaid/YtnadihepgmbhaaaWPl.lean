/-
  What the reference model's BufPlay comes to.
-/
import Derived.Test.YtnadihepgmbhaaaVInv
import Derived.Test.YtnadihepgmbhaaaOpenIs
import Derived.Test.YtnadihepgmbhaaaVCan
import Derived.Test.YtnadihepgmbhaaaWSdP
import Derived.Deep.QuietTactic
import Derived.BigQuiet
namespace Go.Proofs.Ytnadihepgmbhaaa
open Go.RowKit Pl Go.BigFrame
set_option maxHeartbeats 4000000
set_option maxRecDepth 100000
set_option linter.unusedVariables false

abbrev Bst := (Nat → Nat) × (Nat → List Nat)
def outV (e : Nat) : Option Bst → Value
  | none => .agg Z12
  | some g => QV e g.1 g.2
theorem z12_one : Z12.all (·.oneCell') = true := by simp [Value.oneCell']
theorem bplayed_any (h : PgH) (L : Pg) (e : Nat) (k : IsH) (xs : List Int) (w : World) (B : Nat) (he : Ech e) (hP : PgR w B h L) (hV : IsR w B k xs) (hB : B ≤ w.heap.size) (hL : progB L = true) (LS : IsS xs) (q : Option Bst) (hq : Hid (runQ e L (keptF L zeroF L.length) (fun _ => []) xs = q)) :
    Calls Try.prog 83 #[PgV h L, .int .i64 e, IsV k xs] w fun en w' => en = .returned (.tuple #[outV e q, .bool q.isSome]) ∧ Below w.heap.size w w' := by
  have hm := (IsS_L LS).l0
  unfold maxLen at hm
  obtain ⟨A, c⟩ := k
  show Calls Try.prog 83 #[PgV h L, .int .i64 e, .slice A xs.length c] w _
  obtain ⟨W, hW⟩ : ∃ W, W = (w.alloc (.cells #[.slice h.A L.length h.c] 36)).alloc (.cells Z12 TQ) := ⟨_, rfl⟩
  have bW : Below w.heap.size w W := by rw [hW]; go_grown
  have k0 : Bk W w.heap.size 36 #[.slice h.A L.length h.c] := by rw [hW]; exact (Bk.new w _ _).alloc _
  have k1 : Bk W (w.heap.size + 1) TQ Z12 := by
    rw [hW]; have := Bk.new (w.alloc (.cells #[.slice h.A L.length h.c] 36)) Z12 TQ
    rwa [World.size_alloc] at this
  have P0 := Lib.hid (hP.below bW hB)
  have V0 := Lib.hid (hV.below bW hB)
  have K0 := Lib.hid k0
  have K1 := Lib.hid k1
  have B0 := Lib.hid bW
  have z0 := bW.size
  have HW := Lib.hid hW
  have cP : W.cell? ⟨w.heap.size, 0, none⟩ = some (.slice h.A L.length h.c) := k0.cell 0
  have lP := k0.lt
  clear hW bW k0 k1 hP hV
  have I0 := Lib.hid (invq_beg (e := e) hL)
  obtain ⟨fb, hfb⟩ : ∃ fb, keptF L zeroF L.length = fb := ⟨_, rfl⟩
  obtain ⟨bb, hbb⟩ : ∃ bb : Nat → List Nat, (fun _ => []) = bb := ⟨_, rfl⟩
  have BG := Lib.hid (fun (V : World) (hR : PgR V B h L) (hB' : B ≤ V.heap.size) => begq_any h L e V B hR hB' hL)
  rw [hfb, hbb] at BG hq I0
  clear hfb hbb
  go_enter Try.func83, Try.ntmps83
  go_wp2_with (rw [← HW.out])
  refine (BG.out W P0.out (by omega)).mono ?_
  rintro en w2 ⟨rfl, hb2⟩
  have B2 := Lib.hid (below_on B0.out hb2)
  have z2 := hb2.size
  have K02 := Lib.hid (K0.out.below hb2 K0.out.lt)
  have K12 := Lib.hid (K1.out.below hb2 K1.out.lt)
  have P2 := Lib.hid (P0.out.below hb2 (by omega))
  have V2 := Lib.hid (V0.out.below hb2 (by omega))
  clear hb2 cP lP K0 K1 P0 V0 BG
  go_wp2_with (refine st_q rfl _ _ rfl w2.heap.size rfl TQ Z12 _ rfl (Bk.new _ _ _) rfl rfl (mkQ_one _ _ _ _) ?_; intro V s3)
  have start := Lib.hid (show Below w2.heap.size w2 V ∧ Bk V w2.heap.size TQ (mkQ e (enc WS fb) (mk9 bb) fun i => bwC (bb i)) from ⟨((Below.refl _ _).alloc (Nat.le_refl _) _).trans (s3.bel _ (Nat.le_refl _)), s3.bk⟩)
  clear s3
  go_loopw [16] (fun i wr => ∃ (n : Nat) (f : Nat → Nat) (b : Nat → List Nat), n ≤ xs.length ∧ i = .int .i64 n ∧ Below w2.heap.size w2 wr ∧ Bk wr w2.heap.size TQ (mkQ e (enc WS f) (mk9 b) fun i => bwC (b i)) ∧ Hid (InvQ e L f b) ∧ Hid (runQ e L f b (xs.drop n) = q)) (fun i _ => xs.length - (intOf i).toNat)
  case atStart => exact ⟨0, fb, bb, Nat.zero_le _, rfl, start.out.1, start.out.2, I0, hq⟩
  case round =>
    obtain ⟨n, f, b, hn, rfl, hbel, hkq, hI, hrest⟩ := hrel
    clear start hq
    have hz := hbel.size
    have KQ := Lib.hid hkq
    have BR := Lib.hid (B2.out.trans (hbel.mono (by omega)))
    have K0R := Lib.hid (K02.out.below hbel K02.out.lt)
    have K1R := Lib.hid (K12.out.below hbel K12.out.lt)
    have PR := Lib.hid (P2.out.below hbel (by omega))
    have VR := Lib.hid (V2.out.below hbel (by omega))
    have HBel := Lib.hid hbel
    have lq := KQ.out.lt
    have lp := K0R.out.lt
    have cP : wr.cell? ⟨w.heap.size, 0, none⟩ = some (.slice h.A L.length h.c) := K0R.out.cell 0
    clear hkq hbel
    by_cases hlt : n < xs.length
    · obtain ⟨vb, off, th, hA, hvb, hx, hd, hx0⟩ := VR.out.v.int_ hlt
      have hi2 : (n : Int) < (xs.length : Int) := by omega
      have hvr : vb < wr.heap.size := by omega
      simp only at hA
      subst hA
      have Hd := Lib.hid hd
      obtain ⟨g, hg⟩ : ∃ g, canQ e L f b th = g := ⟨_, rfl⟩
      have HG := Lib.hid hg
      clear hd hx hg
      go_wp2_with (refine ld_q rfl _ rfl w2.heap.size rfl TQ _ KQ.out rfl ?_)
      refine (bufable_any h L e f b th wr B he PR.out (by omega) hL hI.out.inv.good hI.out.inv.bits g HG).mono ?_
      rintro en w3 ⟨rfl, hb3⟩
      have z3 := hb3.size
      have B3 := Lib.hid (BR.out.trans (hb3.mono (by omega)))
      have K03 := Lib.hid (K0R.out.below hb3 lp)
      have K13 := Lib.hid (K1R.out.below hb3 K1R.out.lt)
      have P3 := Lib.hid (PR.out.below hb3 (by omega))
      have KQ3 := Lib.hid (KQ.out.below hb3 lq)
      have Bel3 := Lib.hid (HBel.out.trans (hb3.mono (by omega)))
      clear hb3 hx0 cP
      cases g with
      | false =>
        have hq0 : q = none := by
          have := hrest.out
          rw [Hd.out] at this
          unfold runQ at this
          rw [HG.out] at this
          exact this.symm
        subst hq0
        go_wp2_with (refine st_q rfl _ _ rfl (w.heap.size + 1) rfl TQ Z12 Z12 rfl K13.out rfl rfl z12_one ?_; intro V5 s5)
        exact bodyPost_ret (v := .tuple #[.agg Z12, .bool false]) (res_r2 tq_row rfl rfl rfl s5.bk rfl) rfl ⟨rfl, B3.out.trans (s5.bel _ (by omega))⟩
      | true =>
        obtain ⟨t, rfl, ht⟩ := canQ_parts HG.out
        have hnext : Hid (runQ e L (stepQ e L f b t).1 (stepQ e L f b t).2 (xs.drop (n + 1)) = q) := Lib.hid (by
          have := hrest.out
          rw [Hd.out] at this
          unfold runQ at this
          rw [HG.out, if_pos rfl, Int.toNat_natCast] at this
          exact this)
        have hI2 := Lib.hid (invq_step he hL hI.out ht HG.out)
        have SB := Lib.hid (fun (V : World) (hR : PgR V B h L) (hB' : B ≤ V.heap.size) => bufstepped_any h L e f b t V B he hR hB' hL hI.out.inv.good ht HG.out hI.out.inv.chan (hI.out.ok6 he hL))
        have cP : w3.cell? ⟨w.heap.size, 0, none⟩ = some (.slice h.A L.length h.c) := K03.out.cell 0
        have lP3 := K03.out.lt
        obtain ⟨st2, hst2⟩ : ∃ st2, stepQ e L f b t = st2 := ⟨_, rfl⟩
        rw [hst2] at hnext hI2 SB
        clear hst2 hrest
        go_wp2_with (refine ld_q rfl _ rfl w2.heap.size rfl TQ _ KQ3.out rfl ?_)
        refine (SB.out w3 P3.out (by omega)).mono ?_
        rintro en w4 ⟨rfl, hb4⟩
        have z4 := hb4.size
        have KQ4 := Lib.hid (KQ3.out.below hb4 KQ3.out.lt)
        have Bel4 := Lib.hid (Bel3.out.trans (hb4.mono (by omega)))
        clear hb4 cP lP3 SB
        go_wp2_with (refine st_q rfl _ _ rfl w2.heap.size rfl TQ _ _ rfl KQ4.out rfl rfl (mkQ_one _ _ _ _) ?_; intro V5 s5)
        go_roundw
        case rel => exact ⟨n + 1, st2.1, st2.2, by omega, by go_num, Bel4.out.trans (s5.bel _ (Nat.le_refl _)), s5.bk, hI2, hnext⟩
        case measure => simp [intOf]; omega
    · have hnl : n = xs.length := by omega
      subst hnl
      have hq0 : q = some (f, b) := by
        have := hrest.out
        rw [List.drop_eq_nil_of_le (by omega)] at this
        exact this.symm
      subst hq0
      have hnot : ¬ (xs.length : Int) < (xs.length : Int) := by omega
      clear cP
      go_wp2_with (first | (refine ld_q rfl _ rfl w2.heap.size rfl TQ _ KQ.out rfl ?_) | (refine st_q rfl _ _ rfl (w.heap.size + 1) rfl TQ _ _ rfl K1R.out rfl rfl (mkQ_one _ _ _ _) ?_; intro V5 s5))
      exact bodyPost_ret (v := .tuple #[QV e f b, .bool true]) (res_r2 tq_row rfl rfl rfl s5.bk rfl) rfl ⟨rfl, BR.out.trans (s5.bel _ (by omega))⟩
/-- The record behind an order of steps. -/
def bplayO (L : Pg) (xs : List Int) : Option Bst := if progB L then runQ 1 L (keptF L zeroF L.length) (fun _ => []) xs else none
def bufOfO (L : Pg) : Option Bst → Buf
  | none => BufE
  | some g => bufOf L g.1 g.2
def bplayE (L : Pg) (xs : List Int) : Buf := bufOfO L (bplayO L xs)
def bplayB (L : Pg) (xs : List Int) : Bool := (bplayO L xs).isSome
theorem ibplay_any (h : PgH) (L : Pg) (k : IsH) (xs : List Int) (w : World) (B : Nat) (hP : PgR w B h L) (hV : IsR w B k xs) (hB : B ≤ w.heap.size) (SP : PgS L) (LS : IsS xs) :
    Calls Try.prog 47 #[PgV h L, IsV k xs] w (AnsBuf w (bplayE L xs) (bplayB L xs)) := by
  have LP := PgS_L SP
  have hl := LP.l
  obtain ⟨W, hW⟩ : ∃ W, W = (w.alloc (.cells #[.slice h.A L.length h.c] 36)).alloc (.cells #[.slice none 0 0, .slice none 0 0, .slice none 0 0, .slice none 0 0, .slice none 0 0, .slice none 0 0] 59) := ⟨_, rfl⟩
  have bW : Below w.heap.size w W := by rw [hW]; go_grown
  have k0 : Bk W w.heap.size 36 #[.slice h.A L.length h.c] := by rw [hW]; exact (Bk.new w _ _).alloc _
  have k1 : Bk W (w.heap.size + 1) 59 #[.slice none 0 0, .slice none 0 0, .slice none 0 0, .slice none 0 0, .slice none 0 0, .slice none 0 0] := by
    rw [hW]; have := Bk.new (w.alloc (.cells #[.slice h.A L.length h.c] 36)) #[.slice none 0 0, .slice none 0 0, .slice none 0 0, .slice none 0 0, .slice none 0 0, .slice none 0 0] 59
    rwa [World.size_alloc] at this
  have P0 := Lib.hid (hP.below bW hB)
  have V0 := Lib.hid (hV.below bW hB)
  have K0 := Lib.hid k0
  have K1 := Lib.hid k1
  have B0 := Lib.hid bW
  have z0 := bW.size
  have HW := Lib.hid hW
  have cP : W.cell? ⟨w.heap.size, 0, none⟩ = some (.slice h.A L.length h.c) := k0.cell 0
  have lP := k0.lt
  clear hW bW k0 k1 hP hV
  obtain ⟨p, hp⟩ : ∃ p, progB L = p := ⟨_, rfl⟩
  have HP := Lib.hid hp
  go_enter Try.func47, Try.ntmps47
  go_wp2_with (rw [← HW.out])
  refine (iprog_any h.A L h.c W B P0.out (by omega) hl p HP).mono ?_
  rintro en w1 ⟨rfl, hb1⟩
  have B1 := Lib.hid (below_on B0.out hb1)
  have z1 := hb1.size
  have K01 := Lib.hid (K0.out.below hb1 K0.out.lt)
  have K11 := Lib.hid (K1.out.below hb1 K1.out.lt)
  have P1 := Lib.hid (P0.out.below hb1 (by omega))
  have V1 := Lib.hid (V0.out.below hb1 (by omega))
  clear hb1 cP lP K0 K1 P0 V0
  cases p with
  | false =>
    have hE : Hid (bplayE L xs = BufE ∧ bplayB L xs = false) := Lib.hid (by
      have : bplayO L xs = none := by unfold bplayO; rw [hp]; rfl
      unfold bplayE bplayB
      rw [this]; exact ⟨rfl, rfl⟩)
    go_wp2_with (refine st_r buf_row rfl _ _ rfl (w.heap.size + 1) rfl 59 _ #[.slice none 0 0, .slice none 0 0, .slice none 0 0, .slice none 0 0, .slice none 0 0, .slice none 0 0] rfl K11.out rfl rfl (sl6_one _ _ _ _ _ _ _ _ _ _ _ _ _ _ _ _ _ _) ?_; intro V5 s5)
    refine bodyPost_ret (v := .tuple #[.agg #[.slice none 0 0, .slice none 0 0, .slice none 0 0, .slice none 0 0, .slice none 0 0, .slice none 0 0], .bool false]) (res_r2 buf_row rfl rfl rfl s5.bk rfl) rfl ?_
    have := s5.size
    rw [hE.out.1, hE.out.2]
    exact ⟨BufN, rfl, B1.out.trans (s5.bel _ (by omega)), by omega, BufO.none_ _ _ _ _ (by omega)⟩
  | true =>
    obtain ⟨h31, h32⟩ := prog_len hp
    obtain ⟨q, hq⟩ : ∃ q, runQ 1 L (keptF L zeroF L.length) (fun _ => []) xs = q := ⟨_, rfl⟩
    have hE : Hid (bplayE L xs = bufOfO L q ∧ bplayB L xs = q.isSome) := Lib.hid (by
      have : bplayO L xs = q := by unfold bplayO; rw [hp, if_pos rfl]; exact hq
      unfold bplayE bplayB
      rw [this]; exact ⟨rfl, rfl⟩)
    have HQ := Lib.hid hq
    have cP : w1.cell? ⟨w.heap.size, 0, none⟩ = some (.slice h.A L.length h.c) := K01.out.cell 0
    have lP := K01.out.lt
    clear hq
    go_wp2_with fail
    refine (bplayed_any h L 1 k xs w1 B (Or.inl rfl) P1.out V1.out (by omega) HP.out LS q HQ).mono ?_
    rintro en w2 ⟨rfl, hb2⟩
    have B2 := Lib.hid (below_on B1.out hb2)
    have z2 := hb2.size
    have K02 := Lib.hid (K01.out.below hb2 K01.out.lt)
    have K12 := Lib.hid (K11.out.below hb2 K11.out.lt)
    have P2 := Lib.hid (P1.out.below hb2 (by omega))
    clear hb2 cP lP
    cases q with
    | none =>
      go_wp2_with (first | (refine st_q rfl _ _ rfl w2.heap.size rfl TQ Z12 Z12 rfl (Bk.new _ _ _) rfl rfl z12_one ?_; intro V3 s3; have b23 : Below w2.heap.size w2 V3 := ((Below.refl _ _).alloc (Nat.le_refl _) _).trans (s3.bel _ (Nat.le_refl _))) | (refine st_r buf_row rfl _ _ rfl (w.heap.size + 1) rfl 59 _ #[.slice none 0 0, .slice none 0 0, .slice none 0 0, .slice none 0 0, .slice none 0 0, .slice none 0 0] rfl (K12.out.below b23 K12.out.lt) rfl rfl (sl6_one _ _ _ _ _ _ _ _ _ _ _ _ _ _ _ _ _ _) ?_; intro V5 s5))
      refine bodyPost_ret (v := .tuple #[.agg #[.slice none 0 0, .slice none 0 0, .slice none 0 0, .slice none 0 0, .slice none 0 0, .slice none 0 0], .bool false]) (res_r2 buf_row rfl rfl rfl s5.bk rfl) rfl ?_
      have := s5.size
      have := b23.size
      rw [hE.out.1, hE.out.2]
      exact ⟨BufN, rfl, (below_on B2.out b23).trans (s5.bel _ (by omega)), by omega, BufO.none_ _ _ _ _ (by omega)⟩
    | some g =>
      obtain ⟨f, b⟩ := g
      have hI : Hid (InvQ 1 L f b) := Lib.hid (runQ_inv (Or.inl rfl) hp (invq_beg hp) HQ.out)
      have UB := Lib.hid (fun V => unpbuf_any h L f b V HP.out hI.out.inv.good.ok (fun u hu => ⟨((hI.out.ok6 (Or.inl rfl) HP.out) u hu).1, by have := ((hI.out.ok6 (Or.inl rfl) HP.out) u hu).2; omega⟩))
      go_wp2_with (first | (refine st_q rfl _ _ rfl w2.heap.size rfl TQ Z12 _ rfl (Bk.new _ _ _) rfl rfl (mkQ_one _ _ _ _) ?_; intro V3 s3; have b23 : Below w2.heap.size w2 V3 := ((Below.refl _ _).alloc (Nat.le_refl _) _).trans (s3.bel _ (Nat.le_refl _)); have z23 := b23.size; have cP : V3.cell? ⟨w.heap.size, 0, none⟩ = some (.slice h.A L.length h.c) := (K02.out.below b23 K02.out.lt).cell 0; have lP : w.heap.size < V3.heap.size := (by have := K02.out.lt; omega)) | (refine ld_q rfl _ rfl w2.heap.size rfl TQ _ s3.bk rfl ?_))
      have K13 := Lib.hid (K12.out.below b23 K12.out.lt)
      have B3 := Lib.hid (below_on B2.out b23)
      refine (UB.out V3).mono ?_
      rintro en w4 ⟨hu, rfl, hb4, hl4, ov⟩
      have B4 := Lib.hid (below_on B3.out hb4)
      have K14 := Lib.hid (K13.out.below hb4 K13.out.lt)
      have Ov := Lib.hid ov
      have z4 := hb4.size
      have l13 := K13.out.lt
      clear hb4 ov cP b23 s3
      go_wp2_with (refine st_r buf_row rfl _ _ rfl (w.heap.size + 1) rfl 59 _ #[.slice hu.h.A0 (bufOf L f b).st.f0.length hu.h.c0, .slice hu.h.A1 (bufOf L f b).st.f1.length hu.h.c1, .slice hu.h.A2 (bufOf L f b).st.f2.length hu.h.c2, .slice hu.h.A3 (bufOf L f b).st.f3.length hu.h.c3, .slice hu.h.A4 (bufOf L f b).st.f4.length hu.h.c4, .slice hu.k.A (bufOf L f b).bs.length hu.k.c] rfl K14.out rfl rfl (sl6_one _ _ _ _ _ _ _ _ _ _ _ _ _ _ _ _ _ _) ?_; intro V5 s5)
      refine bodyPost_ret (v := .tuple #[BufV hu (bufOf L f b), .bool true]) (res_r2 buf_row rfl rfl rfl s5.bk rfl) rfl ?_
      have := s5.size
      rw [hE.out.1, hE.out.2]
      exact ⟨hu, rfl, B4.out.trans (s5.bel _ (by omega)), by omega, Ov.out.keep (by omega) (by omega) fun q h1 h2 => s5.far q (by omega)⟩
/-- The record behind an order of steps. -/
def vplayO (L : Pg) (xs : List Int) : Option Bst := if progB L then runQ 3 L (keptF L zeroF L.length) (fun _ => []) xs else none
def sprOfO (L : Pg) : Option Bst → Buf
  | none => BufE
  | some g => sprOf L g.1 g.2
def vplayE (L : Pg) (xs : List Int) : Buf := sprOfO L (vplayO L xs)
def vplayB (L : Pg) (xs : List Int) : Bool := (vplayO L xs).isSome
end Go.Proofs.Ytnadihepgmbhaaa
namespace Go.Proofs.Ytnadihepgmbhaaa
open Go.RowKit Pl Go.BigFrame
set_option maxHeartbeats 4000000
set_option maxRecDepth 100000
set_option linter.unusedVariables false

theorem InvQ.bfp1 {L : Pg} {f : Nat → Nat} {b : Nat → List Nat} (hL : progB L = true) (I : InvQ 1 L f b) : BfP L (bufOf L f b) :=
  ⟨stB_parts (staF_stB hL I.inv), bufOf_len L f b, fun xs hx => by
    obtain ⟨i, hi⟩ := List.getElem?_of_mem hx
    obtain ⟨h1, rfl⟩ := bufOf_inv hi
    have := InvQ.ok6 (Or.inl rfl) hL I i (by have := (prog_len hL).2; omega)
    exact lok_rowS this.1 this.2⟩
theorem InvQ.cds1 {L : Pg} {f : Nat → Nat} {b : Nat → List Nat} (hL : progB L = true) (I : InvQ 1 L f b) : cdsB (bufOf L f b) = b := by
  funext t
  rcases Nat.lt_or_ge t L.length with h | h
  · have e : (bufOf L f b).bs.getD t [] = rowS (b t) := by simp [List.getD, bufOf_at L f b h]
    unfold cdsB
    rw [e, cdR_rowS]
  · rw [cdsB_off (by rw [bufOf_len]; exact h), I.off t (by omega)]
theorem InvQ.can1 {L : Pg} {f : Nat → Nat} {b : Nat → List Nat} (hL : progB L = true) (I : InvQ 1 L f b) (st : Int) : canQ 1 L (wdF L (bufOf L f b).st) (cdsB (bufOf L f b)) st = canQ 1 L f b st := by
  rw [I.cds1 hL, show (bufOf L f b).st = staF L f from rfl, wd_sta hL I.inv]
theorem sbplay_any (h : PgH) (L : Pg) (k : IsH) (xs : List Int) (w : World) (B : Nat) (hP : PgR w B h L) (hV : IsR w B k xs) (hB : B ≤ w.heap.size) (SP : PgS L) (LS : IsS xs) :
    Calls Try.prog 46 #[PgV h L, IsV k xs] w (AnsIBuf w (bplayE L xs) (bplayB L xs)) := by
  have LP := PgS_L SP
  have hl := LP.l
  have hm := (IsS_L LS).l0
  unfold maxLen at hm
  obtain ⟨A, c⟩ := k
  show Calls Try.prog 46 #[PgV h L, .slice A xs.length c] w (AnsIBuf w (bplayE L xs) (bplayB L xs))
  obtain ⟨W, hW⟩ : ∃ W, W = (w.alloc (.cells #[.slice h.A L.length h.c] 36)).alloc (.cells #[.slice none 0 0, .slice none 0 0, .slice none 0 0, .slice none 0 0, .slice none 0 0, .slice none 0 0] 59) := ⟨_, rfl⟩
  have bW : Below w.heap.size w W := by rw [hW]; go_grown
  have sW : W.heap.size = w.heap.size + 1 + 1 := by rw [hW]; simp
  have k0 : Bk W w.heap.size 36 #[.slice h.A L.length h.c] := by rw [hW]; exact (Bk.new w _ _).alloc _
  have k1 : Bk W (w.heap.size + 1) 59 #[.slice none 0 0, .slice none 0 0, .slice none 0 0, .slice none 0 0, .slice none 0 0, .slice none 0 0] := by
    rw [hW]; have := Bk.new (w.alloc (.cells #[.slice h.A L.length h.c] 36)) #[.slice none 0 0, .slice none 0 0, .slice none 0 0, .slice none 0 0, .slice none 0 0, .slice none 0 0] 59
    rwa [World.size_alloc] at this
  have P0 := Lib.hid (hP.below bW hB)
  have V0 := Lib.hid (hV.below bW hB)
  have K00 := Lib.hid k0
  have K10 := Lib.hid k1
  have B0 := Lib.hid bW
  have sWa := Nat.le_of_eq sW
  have sWb := Nat.le_of_eq sW.symm
  have HW := Lib.hid hW
  clear k0 k1 bW sW hW hP hV
  rcases Bool.eq_false_or_eq_true (progB L) with hp | hp
  rotate_left
  · have hO : bplayO L xs = none := by unfold bplayO; rw [hp]; rfl
    have hE : bplayE L xs = BufE := by unfold bplayE; rw [hO]; rfl
    have hQ : bplayB L xs = false := by unfold bplayB; rw [hO]; rfl
    rw [hE, hQ]
    have HP := Lib.hid hp
    clear hO hE hQ hp
    go_enter Try.func46, Try.ntmps46
    go_wp2_with fail
    rw [← HW.out]
    refine (sprog_any h.A L h.c W B P0.out (by omega) SP.l (Lib.hid SP.e) false HP).mono ?_
    rintro e w1 ⟨rfl, hb1⟩
    have B1 := Lib.hid (B0.out.trans (hb1.mono (by omega)))
    have z1 := hb1.size
    have K01 := Lib.hid (K00.out.below hb1 K00.out.lt)
    have K11 := Lib.hid (K10.out.below hb1 K10.out.lt)
    have P1 := Lib.hid (P0.out.below hb1 (by omega))
    have V1 := Lib.hid (V0.out.below hb1 (by omega))
    have fr0 : w1.frozen? ⟨w.heap.size + 1, 0, none⟩ = false := (K11.out).free 0
    have cr0 : w1.cell? ⟨w.heap.size + 1, 0, none⟩ = some (.slice none 0 0) := (K11.out).cell 0
    have fr1 : w1.frozen? ⟨w.heap.size + 1, 1, none⟩ = false := (K11.out).free 1
    have cr1 : w1.cell? ⟨w.heap.size + 1, 1, none⟩ = some (.slice none 0 0) := (K11.out).cell 1
    have fr2 : w1.frozen? ⟨w.heap.size + 1, 2, none⟩ = false := (K11.out).free 2
    have cr2 : w1.cell? ⟨w.heap.size + 1, 2, none⟩ = some (.slice none 0 0) := (K11.out).cell 2
    have fr3 : w1.frozen? ⟨w.heap.size + 1, 3, none⟩ = false := (K11.out).free 3
    have cr3 : w1.cell? ⟨w.heap.size + 1, 3, none⟩ = some (.slice none 0 0) := (K11.out).cell 3
    have fr4 : w1.frozen? ⟨w.heap.size + 1, 4, none⟩ = false := (K11.out).free 4
    have cr4 : w1.cell? ⟨w.heap.size + 1, 4, none⟩ = some (.slice none 0 0) := (K11.out).cell 4
    have fr5 : w1.frozen? ⟨w.heap.size + 1, 5, none⟩ = false := (K11.out).free 5
    have cr5 : w1.cell? ⟨w.heap.size + 1, 5, none⟩ = some (.slice none 0 0) := (K11.out).cell 5
    go_wp2
    clear cr0 fr0 cr1 fr1 cr2 fr2 cr3 fr3 cr4 fr4 cr5 fr5
    have kF : Bk ((((((w1.setCell ⟨w.heap.size + 1, 0, none⟩ (.slice none 0 0)).setCell ⟨w.heap.size + 1, 1, none⟩ (.slice none 0 0)).setCell ⟨w.heap.size + 1, 2, none⟩ (.slice none 0 0)).setCell ⟨w.heap.size + 1, 3, none⟩ (.slice none 0 0)).setCell ⟨w.heap.size + 1, 4, none⟩ (.slice none 0 0)).setCell ⟨w.heap.size + 1, 5, none⟩ (.slice none 0 0)) (w.heap.size + 1) 59 #[.slice none 0 0, .slice none 0 0, .slice none 0 0, .slice none 0 0, .slice none 0 0, .slice none 0 0] := by
      have a0 := K11.out
      have a1 := a0.set 0 (.slice none 0 0)
      have a2 := a1.set 1 (.slice none 0 0)
      have a3 := a2.set 2 (.slice none 0 0)
      have a4 := a3.set 3 (.slice none 0 0)
      have a5 := a4.set 4 (.slice none 0 0)
      have a6 := a5.set 5 (.slice none 0 0)
      simpa using a6
    have bF : ∀ B, B ≤ w.heap.size + 1 → Below B w1 ((((((w1.setCell ⟨w.heap.size + 1, 0, none⟩ (.slice none 0 0)).setCell ⟨w.heap.size + 1, 1, none⟩ (.slice none 0 0)).setCell ⟨w.heap.size + 1, 2, none⟩ (.slice none 0 0)).setCell ⟨w.heap.size + 1, 3, none⟩ (.slice none 0 0)).setCell ⟨w.heap.size + 1, 4, none⟩ (.slice none 0 0)).setCell ⟨w.heap.size + 1, 5, none⟩ (.slice none 0 0)) := fun B hB => (((((((Below.refl _ _).setCell (by show B ≤ w.heap.size + 1; omega) _).setCell (by show B ≤ w.heap.size + 1; omega) _).setCell (by show B ≤ w.heap.size + 1; omega) _).setCell (by show B ≤ w.heap.size + 1; omega) _).setCell (by show B ≤ w.heap.size + 1; omega) _).setCell (by show B ≤ w.heap.size + 1; omega) _)
    have nF : ∀ q, q ≠ w.heap.size + 1 → ((((((w1.setCell ⟨w.heap.size + 1, 0, none⟩ (.slice none 0 0)).setCell ⟨w.heap.size + 1, 1, none⟩ (.slice none 0 0)).setCell ⟨w.heap.size + 1, 2, none⟩ (.slice none 0 0)).setCell ⟨w.heap.size + 1, 3, none⟩ (.slice none 0 0)).setCell ⟨w.heap.size + 1, 4, none⟩ (.slice none 0 0)).setCell ⟨w.heap.size + 1, 5, none⟩ (.slice none 0 0)).heap[q]? = w1.heap[q]? := fun q hq => (Below.heap_setCell _ _ _ q (by show q ≠ w.heap.size + 1; omega)).trans ((Below.heap_setCell _ _ _ q (by show q ≠ w.heap.size + 1; omega)).trans ((Below.heap_setCell _ _ _ q (by show q ≠ w.heap.size + 1; omega)).trans ((Below.heap_setCell _ _ _ q (by show q ≠ w.heap.size + 1; omega)).trans ((Below.heap_setCell _ _ _ q (by show q ≠ w.heap.size + 1; omega)).trans (Below.heap_setCell _ _ _ q (by show q ≠ w.heap.size + 1; omega))))))
    have sF : ((((((w1.setCell ⟨w.heap.size + 1, 0, none⟩ (.slice none 0 0)).setCell ⟨w.heap.size + 1, 1, none⟩ (.slice none 0 0)).setCell ⟨w.heap.size + 1, 2, none⟩ (.slice none 0 0)).setCell ⟨w.heap.size + 1, 3, none⟩ (.slice none 0 0)).setCell ⟨w.heap.size + 1, 4, none⟩ (.slice none 0 0)).setCell ⟨w.heap.size + 1, 5, none⟩ (.slice none 0 0)).heap.size = w1.heap.size := by simp
    have KF := Lib.hid kF
    have BF := Lib.hid bF
    have NF := Lib.hid nF
    obtain ⟨F, hF⟩ : ∃ F, F = ((((((w1.setCell ⟨w.heap.size + 1, 0, none⟩ (.slice none 0 0)).setCell ⟨w.heap.size + 1, 1, none⟩ (.slice none 0 0)).setCell ⟨w.heap.size + 1, 2, none⟩ (.slice none 0 0)).setCell ⟨w.heap.size + 1, 3, none⟩ (.slice none 0 0)).setCell ⟨w.heap.size + 1, 4, none⟩ (.slice none 0 0)).setCell ⟨w.heap.size + 1, 5, none⟩ (.slice none 0 0)) := ⟨_, rfl⟩
    rw [← hF] at KF BF NF sF
    rw [← hF]
    clear kF bF nF hF
    have sFa := Nat.le_of_eq sF
    have sFb := Nat.le_of_eq sF.symm
    clear sF
    have cF0 := KF.out.cell 0
    have cF1 := KF.out.cell 1
    have cF2 := KF.out.cell 2
    have cF3 := KF.out.cell 3
    have cF4 := KF.out.cell 4
    have cF5 := KF.out.cell 5
    simp only [List.getElem?_toArray, List.getElem?_cons_zero, List.getElem?_cons_succ] at cF0 cF1 cF2 cF3 cF4 cF5
    refine bodyPost_ret (v := .tuple #[.agg #[.slice none 0 0, .slice none 0 0, .slice none 0 0, .slice none 0 0, .slice none 0 0, .slice none 0 0], .bool false]) (by simp [results, Try.results46, cF0, cF1, cF2, cF3, cF4, cF5, go_sem]) rfl ?_
    exact ⟨BufN, rfl, B1.out.trans (BF.out _ (by omega)), by omega, BufI.none_ _ _ _ _⟩
  obtain ⟨h31, h32⟩ := prog_len hp
  obtain ⟨q, hq⟩ : ∃ q, runQ 1 L (keptF L zeroF L.length) (fun _ => []) xs = q := ⟨_, rfl⟩
  have hO : bplayO L xs = q := by unfold bplayO; rw [hp, if_pos rfl]; exact hq
  have hE : bplayE L xs = bufOfO L q := by unfold bplayE; rw [hO]
  have hQ : bplayB L xs = q.isSome := by unfold bplayB; rw [hO]
  rw [hE, hQ]
  have HQ := Lib.hid hq
  have HP := Lib.hid hp
  have I0 := Lib.hid (invq_beg (e := 1) hp)
  obtain ⟨o0, ho0⟩ : ∃ o, o = bbegS L := ⟨_, rfl⟩
  have HO0 := Lib.hid (show o0 = bufOf L (keptF L zeroF L.length) (fun _ => []) by rw [ho0, bufOf_beg L h32])
  have S7 := Lib.hid (fun V => s7begin_any h L V h31 h32)
  rw [← ho0] at S7
  clear hO hE hQ hq hp ho0
  go_enter Try.func46, Try.ntmps46
  go_wp2_with fail
  rw [← HW.out]
  refine (sprog_any h.A L h.c W B P0.out (by omega) SP.l (Lib.hid SP.e) true HP).mono ?_
  rintro e w1 ⟨rfl, hb1⟩
  have B1 := Lib.hid (B0.out.trans (hb1.mono (by omega)))
  have z1 := hb1.size
  have K01 := Lib.hid (K00.out.below hb1 K00.out.lt)
  have K11 := Lib.hid (K10.out.below hb1 K10.out.lt)
  have P1 := Lib.hid (P0.out.below hb1 (by omega))
  have V1 := Lib.hid (V0.out.below hb1 (by omega))
  have cb : w1.cell? ⟨w.heap.size, 0, none⟩ = some (.slice h.A L.length h.c) := K01.out.cell 0
  have lb := K01.out.lt
  clear hb1
  go_wp2_with fail
  clear cb lb
  refine (S7.out w1).mono ?_
  rintro e w2 ⟨hs, rfl, hb2, hz2, oi⟩
  have OI := Lib.hid oi
  have B2 := Lib.hid (B1.out.trans (hb2.mono (by omega)))
  have z2 := hb2.size
  have K02 := Lib.hid (K01.out.below hb2 K01.out.lt)
  have K12 := Lib.hid (K11.out.below hb2 K11.out.lt)
  have P2 := Lib.hid (P1.out.below hb2 (by omega))
  have V2 := Lib.hid (V1.out.below hb2 (by omega))
  clear hb2 oi
  go_wp2_with fail
  obtain ⟨V, hV⟩ : ∃ V, V = w2.alloc (.cells #[.slice hs.h.A0 o0.st.f0.length hs.h.c0, .slice hs.h.A1 o0.st.f1.length hs.h.c1, .slice hs.h.A2 o0.st.f2.length hs.h.c2, .slice hs.h.A3 o0.st.f3.length hs.h.c3, .slice hs.h.A4 o0.st.f4.length hs.h.c4, .slice hs.k.A o0.bs.length hs.k.c] 59) := ⟨_, rfl⟩
  rw [← hV]
  have bV : Below w2.heap.size w2 V := by rw [hV]; exact (Below.refl _ _).alloc (Nat.le_refl _) _
  have kV : Bk V w2.heap.size 59 #[.slice hs.h.A0 o0.st.f0.length hs.h.c0, .slice hs.h.A1 o0.st.f1.length hs.h.c1, .slice hs.h.A2 o0.st.f2.length hs.h.c2, .slice hs.h.A3 o0.st.f3.length hs.h.c3, .slice hs.h.A4 o0.st.f4.length hs.h.c4, .slice hs.k.A o0.bs.length hs.k.c] := by rw [hV]; exact Bk.new _ _ _
  have zV : V.heap.size = w2.heap.size + 1 := by rw [hV]; simp
  have zVa := Nat.le_of_eq zV
  have zVb := Nat.le_of_eq zV.symm
  have start := Lib.hid (And.intro bV (And.intro kV (OI.out.below bV (Nat.le_refl _))))
  clear hV bV kV zV
  go_loopw [7] (fun i wr => ∃ (n : Nat) (f : Nat → Nat) (b : Nat → List Nat) (o : Buf) (hk : BufH) (lo hi : Nat), n ≤ xs.length ∧ i = .int .i64 n ∧ Below w2.heap.size w2 wr ∧ Bk wr w2.heap.size 59 #[.slice hk.h.A0 o.st.f0.length hk.h.c0, .slice hk.h.A1 o.st.f1.length hk.h.c1, .slice hk.h.A2 o.st.f2.length hk.h.c2, .slice hk.h.A3 o.st.f3.length hk.h.c3, .slice hk.h.A4 o.st.f4.length hk.h.c4, .slice hk.k.A o.bs.length hk.k.c] ∧ BufI wr lo hi hk o ∧ w.heap.size + 1 < lo ∧ lo ≤ hi ∧ hi ≤ wr.heap.size ∧ (hi ≤ w2.heap.size ∨ w2.heap.size < lo) ∧ Hid (InvQ 1 L f b) ∧ Hid (o = bufOf L f b) ∧ Hid (runQ 1 L f b (xs.drop n) = q)) (fun i _ => xs.length - (intOf i).toNat)
  case atStart => exact ⟨0, _, _, o0, hs, w1.heap.size, w2.heap.size, Nat.zero_le _, rfl, start.out.1, start.out.2.1, start.out.2.2, by omega, by omega, by omega, Or.inl (Nat.le_refl _), I0, HO0, HQ⟩
  case round =>
    obtain ⟨n, f, b, o, hk, lo, hi, hn, rfl, hbel, hks, hoi, hlo, hlh, hhi, hap, hI, hO, hrest⟩ := hrel
    clear start OI HO0 S7
    have hz := hbel.size
    have KS := Lib.hid hks
    have OS := Lib.hid hoi
    have BR := Lib.hid (B2.out.trans (hbel.mono (by omega)))
    have K0R := Lib.hid (K02.out.below hbel K02.out.lt)
    have K1R := Lib.hid (K12.out.below hbel K12.out.lt)
    have PR := Lib.hid (P2.out.below hbel (by omega))
    have VR := Lib.hid (V2.out.below hbel (by omega))
    have HBel := Lib.hid hbel
    have ls := KS.out.lt
    have lp := K0R.out.lt
    clear hbel hks hoi
    by_cases hlt : n < xs.length
    · obtain ⟨vb, off, th, hA, hvb, hx, hd, hx0⟩ := VR.out.v.int_ hlt
      have hi2 : (n : Int) < (xs.length : Int) := by omega
      have hvr : vb < wr.heap.size := by omega
      simp only at hA
      subst hA
      have Hd := Lib.hid hd
      obtain ⟨g, hg⟩ : ∃ g, canQ 1 L f b th = g := ⟨_, rfl⟩
      have HG := Lib.hid hg
      clear hd hx hg
      have g_p : ∀ y : Ws (Fr wr []), y.val.cell? ⟨w.heap.size, 0, none⟩ = some (.slice h.A L.length h.c) := Ws.same (bs := []) lp (K0R.out.cell 0)
      have g_x : ∀ y : Ws (Fr wr []), y.val.cell? ⟨vb, off + n, none⟩ = some (.int .i64 th) := Ws.same (bs := []) hvr hx0
      have g_0 : ∀ y : Ws (Fr wr []), y.val.cell? ⟨w2.heap.size, 0, none⟩ = some (.slice hk.h.A0 o.st.f0.length hk.h.c0) := Ws.same (bs := []) ls (KS.out.cell 0)
      have g_1 : ∀ y : Ws (Fr wr []), y.val.cell? ⟨w2.heap.size, 1, none⟩ = some (.slice hk.h.A1 o.st.f1.length hk.h.c1) := Ws.same (bs := []) ls (KS.out.cell 1)
      have g_2 : ∀ y : Ws (Fr wr []), y.val.cell? ⟨w2.heap.size, 2, none⟩ = some (.slice hk.h.A2 o.st.f2.length hk.h.c2) := Ws.same (bs := []) ls (KS.out.cell 2)
      have g_3 : ∀ y : Ws (Fr wr []), y.val.cell? ⟨w2.heap.size, 3, none⟩ = some (.slice hk.h.A3 o.st.f3.length hk.h.c3) := Ws.same (bs := []) ls (KS.out.cell 3)
      have g_4 : ∀ y : Ws (Fr wr []), y.val.cell? ⟨w2.heap.size, 4, none⟩ = some (.slice hk.h.A4 o.st.f4.length hk.h.c4) := Ws.same (bs := []) ls (KS.out.cell 4)
      have g_5 : ∀ y : Ws (Fr wr []), y.val.cell? ⟨w2.heap.size, 5, none⟩ = some (.slice hk.k.A o.bs.length hk.k.c) := Ws.same (bs := []) ls (KS.out.cell 5)
      have HFr := Lib.hid (fr_none wr)
      haveI hne := Nonempty.intro (Ws.mk _ (fr_none wr))
      have HX0 := Lib.hid hx0
      clear hx0
      obtain ⟨ib, hib⟩ : ∃ ib, inB th 0 (2 * (L.length : Int) - 1) = ib := ⟨_, rfl⟩
      have LI := Lib.hid (fun v : Ws (Fr wr []) => (l1In_b th 0 (2 * (L.length : Int) - 1) v.val ib (Lib.hid hib)).mono fun e w' (hh : _ ∧ v.val = w') => (⟨hh.1, by rw [← hh.2]; exact Below.refl _ _⟩ : e = Ending.returned (.bool ib) ∧ Below v.val.heap.size v.val w'))
      have hgi : g = true → ib = true := fun e => by
        obtain ⟨st, rfl, hst⟩ := canQ_parts (HG.out.trans e)
        rw [← hib]; simp [inB]; omega
      have SC0 : ib = true → Hid (∀ v : Ws (Fr wr []), Calls Try.prog 90 #[PgV h L, BufV hk o, .int .i64 th] v.val fun e w' => e = .returned (.bool g) ∧ Below v.val.heap.size v.val w') := fun e => Lib.hid (fun v => by
        have h1 : ∃ st : Nat, th = (st : Int) ∧ st < 2 * L.length := by rw [e] at hib; simp [inB] at hib; exact ⟨th.toNat, by omega, by omega⟩
        obtain ⟨st, rfl, hst⟩ := h1
        have hzv := v.ok.below.size
        exact s7can_any h L hk o st v.val wr.heap.size ((PR.out.up (Below.refl wr.heap.size wr) (by omega) (by omega)).below v.ok.below (Nat.le_refl _)) ((OS.out.rd.up (Below.refl wr.heap.size wr) (by omega) (by omega)).below v.ok.below (Nat.le_refl _)) hzv (by rw [hO.out]; exact hI.out.bfp1 HP.out) hst g (Lib.hid (by rw [hO.out, hI.out.can1 HP.out]; exact HG.out)))
      cases ib with
      | false =>
        have hgf : g = false := by cases g with
          | false => rfl
          | true => exact absurd (hgi rfl) (by simp)
        subst hgf
        clear SC0 hgi hib
        have hq0 : q = none := by
          have := hrest.out
          rw [Hd.out] at this
          unfold runQ at this
          rw [HG.out] at this
          exact this.symm
        subst hq0
        go_wp2_with fail
        refine region_in (by kernel_rfl) HFr.out.drew ?_
        repeat (go_big_quiet_step (first | (go_at_call 73; exact call_in (LI.out _))))
        refine wpQuiet_nil ?_
        rintro _ ⟨y3, rfl⟩
        have b3 := y3.ok.below
        obtain ⟨w3, hw3⟩ : ∃ w3, w3 = y3.val := ⟨_, rfl⟩
        rw [← hw3] at b3 ⊢
        have z3 := b3.size
        have B3 := Lib.hid (BR.out.trans (b3.mono (by omega)))
        have K13 := Lib.hid (K1R.out.below b3 K1R.out.lt)
        clear b3 hw3 g_p g_x g_0 g_1 g_2 g_3 g_4 g_5 hne
        show _
        have fr0 : w3.frozen? ⟨w.heap.size + 1, 0, none⟩ = false := (K13.out).free 0
        have cr0 : w3.cell? ⟨w.heap.size + 1, 0, none⟩ = some (.slice none 0 0) := (K13.out).cell 0
        have fr1 : w3.frozen? ⟨w.heap.size + 1, 1, none⟩ = false := (K13.out).free 1
        have cr1 : w3.cell? ⟨w.heap.size + 1, 1, none⟩ = some (.slice none 0 0) := (K13.out).cell 1
        have fr2 : w3.frozen? ⟨w.heap.size + 1, 2, none⟩ = false := (K13.out).free 2
        have cr2 : w3.cell? ⟨w.heap.size + 1, 2, none⟩ = some (.slice none 0 0) := (K13.out).cell 2
        have fr3 : w3.frozen? ⟨w.heap.size + 1, 3, none⟩ = false := (K13.out).free 3
        have cr3 : w3.cell? ⟨w.heap.size + 1, 3, none⟩ = some (.slice none 0 0) := (K13.out).cell 3
        have fr4 : w3.frozen? ⟨w.heap.size + 1, 4, none⟩ = false := (K13.out).free 4
        have cr4 : w3.cell? ⟨w.heap.size + 1, 4, none⟩ = some (.slice none 0 0) := (K13.out).cell 4
        have fr5 : w3.frozen? ⟨w.heap.size + 1, 5, none⟩ = false := (K13.out).free 5
        have cr5 : w3.cell? ⟨w.heap.size + 1, 5, none⟩ = some (.slice none 0 0) := (K13.out).cell 5
        go_wp2
        clear cr0 fr0 cr1 fr1 cr2 fr2 cr3 fr3 cr4 fr4 cr5 fr5
        have kF : Bk ((((((w3.setCell ⟨w.heap.size + 1, 0, none⟩ (.slice none 0 0)).setCell ⟨w.heap.size + 1, 1, none⟩ (.slice none 0 0)).setCell ⟨w.heap.size + 1, 2, none⟩ (.slice none 0 0)).setCell ⟨w.heap.size + 1, 3, none⟩ (.slice none 0 0)).setCell ⟨w.heap.size + 1, 4, none⟩ (.slice none 0 0)).setCell ⟨w.heap.size + 1, 5, none⟩ (.slice none 0 0)) (w.heap.size + 1) 59 #[.slice none 0 0, .slice none 0 0, .slice none 0 0, .slice none 0 0, .slice none 0 0, .slice none 0 0] := by
          have a0 := K13.out
          have a1 := a0.set 0 (.slice none 0 0)
          have a2 := a1.set 1 (.slice none 0 0)
          have a3 := a2.set 2 (.slice none 0 0)
          have a4 := a3.set 3 (.slice none 0 0)
          have a5 := a4.set 4 (.slice none 0 0)
          have a6 := a5.set 5 (.slice none 0 0)
          simpa using a6
        have bF : ∀ B, B ≤ w.heap.size + 1 → Below B w3 ((((((w3.setCell ⟨w.heap.size + 1, 0, none⟩ (.slice none 0 0)).setCell ⟨w.heap.size + 1, 1, none⟩ (.slice none 0 0)).setCell ⟨w.heap.size + 1, 2, none⟩ (.slice none 0 0)).setCell ⟨w.heap.size + 1, 3, none⟩ (.slice none 0 0)).setCell ⟨w.heap.size + 1, 4, none⟩ (.slice none 0 0)).setCell ⟨w.heap.size + 1, 5, none⟩ (.slice none 0 0)) := fun B hB => (((((((Below.refl _ _).setCell (by show B ≤ w.heap.size + 1; omega) _).setCell (by show B ≤ w.heap.size + 1; omega) _).setCell (by show B ≤ w.heap.size + 1; omega) _).setCell (by show B ≤ w.heap.size + 1; omega) _).setCell (by show B ≤ w.heap.size + 1; omega) _).setCell (by show B ≤ w.heap.size + 1; omega) _)
        have nF : ∀ q, q ≠ w.heap.size + 1 → ((((((w3.setCell ⟨w.heap.size + 1, 0, none⟩ (.slice none 0 0)).setCell ⟨w.heap.size + 1, 1, none⟩ (.slice none 0 0)).setCell ⟨w.heap.size + 1, 2, none⟩ (.slice none 0 0)).setCell ⟨w.heap.size + 1, 3, none⟩ (.slice none 0 0)).setCell ⟨w.heap.size + 1, 4, none⟩ (.slice none 0 0)).setCell ⟨w.heap.size + 1, 5, none⟩ (.slice none 0 0)).heap[q]? = w3.heap[q]? := fun q hq => (Below.heap_setCell _ _ _ q (by show q ≠ w.heap.size + 1; omega)).trans ((Below.heap_setCell _ _ _ q (by show q ≠ w.heap.size + 1; omega)).trans ((Below.heap_setCell _ _ _ q (by show q ≠ w.heap.size + 1; omega)).trans ((Below.heap_setCell _ _ _ q (by show q ≠ w.heap.size + 1; omega)).trans ((Below.heap_setCell _ _ _ q (by show q ≠ w.heap.size + 1; omega)).trans (Below.heap_setCell _ _ _ q (by show q ≠ w.heap.size + 1; omega))))))
        have sF : ((((((w3.setCell ⟨w.heap.size + 1, 0, none⟩ (.slice none 0 0)).setCell ⟨w.heap.size + 1, 1, none⟩ (.slice none 0 0)).setCell ⟨w.heap.size + 1, 2, none⟩ (.slice none 0 0)).setCell ⟨w.heap.size + 1, 3, none⟩ (.slice none 0 0)).setCell ⟨w.heap.size + 1, 4, none⟩ (.slice none 0 0)).setCell ⟨w.heap.size + 1, 5, none⟩ (.slice none 0 0)).heap.size = w3.heap.size := by simp
        have KF := Lib.hid kF
        have BF := Lib.hid bF
        have NF := Lib.hid nF
        obtain ⟨F, hF⟩ : ∃ F, F = ((((((w3.setCell ⟨w.heap.size + 1, 0, none⟩ (.slice none 0 0)).setCell ⟨w.heap.size + 1, 1, none⟩ (.slice none 0 0)).setCell ⟨w.heap.size + 1, 2, none⟩ (.slice none 0 0)).setCell ⟨w.heap.size + 1, 3, none⟩ (.slice none 0 0)).setCell ⟨w.heap.size + 1, 4, none⟩ (.slice none 0 0)).setCell ⟨w.heap.size + 1, 5, none⟩ (.slice none 0 0)) := ⟨_, rfl⟩
        rw [← hF] at KF BF NF sF
        rw [← hF]
        clear kF bF nF hF
        have sFa := Nat.le_of_eq sF
        have sFb := Nat.le_of_eq sF.symm
        clear sF
        have cF0 := KF.out.cell 0
        have cF1 := KF.out.cell 1
        have cF2 := KF.out.cell 2
        have cF3 := KF.out.cell 3
        have cF4 := KF.out.cell 4
        have cF5 := KF.out.cell 5
        simp only [List.getElem?_toArray, List.getElem?_cons_zero, List.getElem?_cons_succ] at cF0 cF1 cF2 cF3 cF4 cF5
        refine bodyPost_ret (v := .tuple #[.agg #[.slice none 0 0, .slice none 0 0, .slice none 0 0, .slice none 0 0, .slice none 0 0, .slice none 0 0], .bool false]) (by simp [results, Try.results46, cF0, cF1, cF2, cF3, cF4, cF5, go_sem]) rfl ?_
        exact ⟨BufN, rfl, B3.out.trans (BF.out _ (by omega)), by omega, BufI.none_ _ _ _ _⟩
      | true =>
        have SC := SC0 rfl
        clear hgi SC0
        cases g with
        | false =>
          have hq0 : q = none := by
            have := hrest.out
            rw [Hd.out] at this
            unfold runQ at this
            rw [HG.out] at this
            exact this.symm
          subst hq0
          clear hib
          go_wp2_with fail
          refine region_in (by kernel_rfl) HFr.out.drew ?_
          repeat (go_big_quiet_step (first | (go_at_call 73; exact call_in (LI.out _)) | (go_at_call 90; exact call_in (SC.out _))))
          refine wpQuiet_nil ?_
          rintro _ ⟨y3, rfl⟩
          have b3 := y3.ok.below
          obtain ⟨w3, hw3⟩ : ∃ w3, w3 = y3.val := ⟨_, rfl⟩
          rw [← hw3] at b3 ⊢
          have z3 := b3.size
          have B3 := Lib.hid (BR.out.trans (b3.mono (by omega)))
          have K13 := Lib.hid (K1R.out.below b3 K1R.out.lt)
          clear b3 hw3 g_p g_x g_0 g_1 g_2 g_3 g_4 g_5 hne
          show _
          have fr0 : w3.frozen? ⟨w.heap.size + 1, 0, none⟩ = false := (K13.out).free 0
          have cr0 : w3.cell? ⟨w.heap.size + 1, 0, none⟩ = some (.slice none 0 0) := (K13.out).cell 0
          have fr1 : w3.frozen? ⟨w.heap.size + 1, 1, none⟩ = false := (K13.out).free 1
          have cr1 : w3.cell? ⟨w.heap.size + 1, 1, none⟩ = some (.slice none 0 0) := (K13.out).cell 1
          have fr2 : w3.frozen? ⟨w.heap.size + 1, 2, none⟩ = false := (K13.out).free 2
          have cr2 : w3.cell? ⟨w.heap.size + 1, 2, none⟩ = some (.slice none 0 0) := (K13.out).cell 2
          have fr3 : w3.frozen? ⟨w.heap.size + 1, 3, none⟩ = false := (K13.out).free 3
          have cr3 : w3.cell? ⟨w.heap.size + 1, 3, none⟩ = some (.slice none 0 0) := (K13.out).cell 3
          have fr4 : w3.frozen? ⟨w.heap.size + 1, 4, none⟩ = false := (K13.out).free 4
          have cr4 : w3.cell? ⟨w.heap.size + 1, 4, none⟩ = some (.slice none 0 0) := (K13.out).cell 4
          have fr5 : w3.frozen? ⟨w.heap.size + 1, 5, none⟩ = false := (K13.out).free 5
          have cr5 : w3.cell? ⟨w.heap.size + 1, 5, none⟩ = some (.slice none 0 0) := (K13.out).cell 5
          go_wp2
          clear cr0 fr0 cr1 fr1 cr2 fr2 cr3 fr3 cr4 fr4 cr5 fr5
          have kF : Bk ((((((w3.setCell ⟨w.heap.size + 1, 0, none⟩ (.slice none 0 0)).setCell ⟨w.heap.size + 1, 1, none⟩ (.slice none 0 0)).setCell ⟨w.heap.size + 1, 2, none⟩ (.slice none 0 0)).setCell ⟨w.heap.size + 1, 3, none⟩ (.slice none 0 0)).setCell ⟨w.heap.size + 1, 4, none⟩ (.slice none 0 0)).setCell ⟨w.heap.size + 1, 5, none⟩ (.slice none 0 0)) (w.heap.size + 1) 59 #[.slice none 0 0, .slice none 0 0, .slice none 0 0, .slice none 0 0, .slice none 0 0, .slice none 0 0] := by
            have a0 := K13.out
            have a1 := a0.set 0 (.slice none 0 0)
            have a2 := a1.set 1 (.slice none 0 0)
            have a3 := a2.set 2 (.slice none 0 0)
            have a4 := a3.set 3 (.slice none 0 0)
            have a5 := a4.set 4 (.slice none 0 0)
            have a6 := a5.set 5 (.slice none 0 0)
            simpa using a6
          have bF : ∀ B, B ≤ w.heap.size + 1 → Below B w3 ((((((w3.setCell ⟨w.heap.size + 1, 0, none⟩ (.slice none 0 0)).setCell ⟨w.heap.size + 1, 1, none⟩ (.slice none 0 0)).setCell ⟨w.heap.size + 1, 2, none⟩ (.slice none 0 0)).setCell ⟨w.heap.size + 1, 3, none⟩ (.slice none 0 0)).setCell ⟨w.heap.size + 1, 4, none⟩ (.slice none 0 0)).setCell ⟨w.heap.size + 1, 5, none⟩ (.slice none 0 0)) := fun B hB => (((((((Below.refl _ _).setCell (by show B ≤ w.heap.size + 1; omega) _).setCell (by show B ≤ w.heap.size + 1; omega) _).setCell (by show B ≤ w.heap.size + 1; omega) _).setCell (by show B ≤ w.heap.size + 1; omega) _).setCell (by show B ≤ w.heap.size + 1; omega) _).setCell (by show B ≤ w.heap.size + 1; omega) _)
          have nF : ∀ q, q ≠ w.heap.size + 1 → ((((((w3.setCell ⟨w.heap.size + 1, 0, none⟩ (.slice none 0 0)).setCell ⟨w.heap.size + 1, 1, none⟩ (.slice none 0 0)).setCell ⟨w.heap.size + 1, 2, none⟩ (.slice none 0 0)).setCell ⟨w.heap.size + 1, 3, none⟩ (.slice none 0 0)).setCell ⟨w.heap.size + 1, 4, none⟩ (.slice none 0 0)).setCell ⟨w.heap.size + 1, 5, none⟩ (.slice none 0 0)).heap[q]? = w3.heap[q]? := fun q hq => (Below.heap_setCell _ _ _ q (by show q ≠ w.heap.size + 1; omega)).trans ((Below.heap_setCell _ _ _ q (by show q ≠ w.heap.size + 1; omega)).trans ((Below.heap_setCell _ _ _ q (by show q ≠ w.heap.size + 1; omega)).trans ((Below.heap_setCell _ _ _ q (by show q ≠ w.heap.size + 1; omega)).trans ((Below.heap_setCell _ _ _ q (by show q ≠ w.heap.size + 1; omega)).trans (Below.heap_setCell _ _ _ q (by show q ≠ w.heap.size + 1; omega))))))
          have sF : ((((((w3.setCell ⟨w.heap.size + 1, 0, none⟩ (.slice none 0 0)).setCell ⟨w.heap.size + 1, 1, none⟩ (.slice none 0 0)).setCell ⟨w.heap.size + 1, 2, none⟩ (.slice none 0 0)).setCell ⟨w.heap.size + 1, 3, none⟩ (.slice none 0 0)).setCell ⟨w.heap.size + 1, 4, none⟩ (.slice none 0 0)).setCell ⟨w.heap.size + 1, 5, none⟩ (.slice none 0 0)).heap.size = w3.heap.size := by simp
          have KF := Lib.hid kF
          have BF := Lib.hid bF
          have NF := Lib.hid nF
          obtain ⟨F, hF⟩ : ∃ F, F = ((((((w3.setCell ⟨w.heap.size + 1, 0, none⟩ (.slice none 0 0)).setCell ⟨w.heap.size + 1, 1, none⟩ (.slice none 0 0)).setCell ⟨w.heap.size + 1, 2, none⟩ (.slice none 0 0)).setCell ⟨w.heap.size + 1, 3, none⟩ (.slice none 0 0)).setCell ⟨w.heap.size + 1, 4, none⟩ (.slice none 0 0)).setCell ⟨w.heap.size + 1, 5, none⟩ (.slice none 0 0)) := ⟨_, rfl⟩
          rw [← hF] at KF BF NF sF
          rw [← hF]
          clear kF bF nF hF
          have sFa := Nat.le_of_eq sF
          have sFb := Nat.le_of_eq sF.symm
          clear sF
          have cF0 := KF.out.cell 0
          have cF1 := KF.out.cell 1
          have cF2 := KF.out.cell 2
          have cF3 := KF.out.cell 3
          have cF4 := KF.out.cell 4
          have cF5 := KF.out.cell 5
          simp only [List.getElem?_toArray, List.getElem?_cons_zero, List.getElem?_cons_succ] at cF0 cF1 cF2 cF3 cF4 cF5
          refine bodyPost_ret (v := .tuple #[.agg #[.slice none 0 0, .slice none 0 0, .slice none 0 0, .slice none 0 0, .slice none 0 0, .slice none 0 0], .bool false]) (by simp [results, Try.results46, cF0, cF1, cF2, cF3, cF4, cF5, go_sem]) rfl ?_
          exact ⟨BufN, rfl, B3.out.trans (BF.out _ (by omega)), by omega, BufI.none_ _ _ _ _⟩
        | true =>
          obtain ⟨st, rfl, hst⟩ := canQ_parts HG.out
          clear hib
          obtain ⟨f2, b2, hf2⟩ : ∃ f2 b2, (stepQ 1 L f b st).1 = f2 ∧ (stepQ 1 L f b st).2 = b2 := ⟨_, _, rfl, rfl⟩
          have I2 := Lib.hid (show InvQ 1 L f2 b2 by rw [← hf2.1, ← hf2.2]; exact invq_step (Or.inl rfl) HP.out hI.out hst HG.out)
          have Hn : Hid (runQ 1 L f2 b2 (xs.drop (n + 1)) = q) := Lib.hid (by
            have := hrest.out
            rw [Hd.out] at this
            unfold runQ at this
            rw [HG.out, if_pos rfl, Int.toNat_natCast, hf2.1, hf2.2] at this
            exact this)
          obtain ⟨o2, ho2⟩ : ∃ o2, o2 = bufOf L f2 b2 := ⟨_, rfl⟩
          have DO : Hid (∀ V : World, Below wr.heap.size wr V → Calls Try.prog 91 #[PgV h L, BufV hk o, .int .i64 (st : Int)] V (AnsI V o2)) := Lib.hid (fun V hV => by
            have hzv := hV.size
            rw [hO.out, ho2, ← hf2.1, ← hf2.2]
            exact sbdo_any h hk L f b st V wr.heap.size ((PR.out.up (Below.refl wr.heap.size wr) (by omega) (by omega)).below hV (Nat.le_refl _)) (by rw [← hO.out]; exact (OS.out.rd.up (Below.refl wr.heap.size wr) (by omega) (by omega)).below hV (Nat.le_refl _)) hzv HP.out hI.out.inv.good hst HG.out hI.out.inv.chan (hI.out.ok6 (Or.inl rfl) HP.out))
          have HO2 := Lib.hid ho2
          clear ho2 hf2
          go_wp2_with fail
          refine region_in (by kernel_rfl) HFr.out.drew ?_
          repeat (go_big_quiet_step (first | (go_at_call 73; exact call_in (LI.out _)) | (go_at_call 90; exact call_in (SC.out _))))
          refine wpQuiet_nil ?_
          rintro _ ⟨y3, rfl⟩
          have b3 := y3.ok.below
          obtain ⟨w3, hw3⟩ : ∃ w3, w3 = y3.val := ⟨_, rfl⟩
          rw [← hw3] at b3 ⊢
          have z3 := b3.size
          clear hw3 hne g_p g_x g_0 g_1 g_2 g_3 g_4 g_5 LI SC
          have K03 := Lib.hid (K0R.out.below b3 lp)
          have KS3 := Lib.hid (KS.out.below b3 ls)
          have X3 := Lib.hid ((b3.cell (p := ⟨vb, off + n, none⟩) (by show vb < wr.heap.size; exact hvr)).trans HX0.out)
          have B3 := Lib.hid b3
          clear b3
          have g_p : ∀ y : Ws (Fr w3 []), y.val.cell? ⟨w.heap.size, 0, none⟩ = some (.slice h.A L.length h.c) := Ws.same (bs := []) K03.out.lt (K03.out.cell 0)
          have g_x : ∀ y : Ws (Fr w3 []), y.val.cell? ⟨vb, off + n, none⟩ = some (.int .i64 (st : Int)) := Ws.same (bs := []) (by show vb < w3.heap.size; omega) X3.out
          have g_0 : ∀ y : Ws (Fr w3 []), y.val.cell? ⟨w2.heap.size, 0, none⟩ = some (.slice hk.h.A0 o.st.f0.length hk.h.c0) := Ws.same (bs := []) KS3.out.lt (KS3.out.cell 0)
          have g_1 : ∀ y : Ws (Fr w3 []), y.val.cell? ⟨w2.heap.size, 1, none⟩ = some (.slice hk.h.A1 o.st.f1.length hk.h.c1) := Ws.same (bs := []) KS3.out.lt (KS3.out.cell 1)
          have g_2 : ∀ y : Ws (Fr w3 []), y.val.cell? ⟨w2.heap.size, 2, none⟩ = some (.slice hk.h.A2 o.st.f2.length hk.h.c2) := Ws.same (bs := []) KS3.out.lt (KS3.out.cell 2)
          have g_3 : ∀ y : Ws (Fr w3 []), y.val.cell? ⟨w2.heap.size, 3, none⟩ = some (.slice hk.h.A3 o.st.f3.length hk.h.c3) := Ws.same (bs := []) KS3.out.lt (KS3.out.cell 3)
          have g_4 : ∀ y : Ws (Fr w3 []), y.val.cell? ⟨w2.heap.size, 4, none⟩ = some (.slice hk.h.A4 o.st.f4.length hk.h.c4) := Ws.same (bs := []) KS3.out.lt (KS3.out.cell 4)
          have g_5 : ∀ y : Ws (Fr w3 []), y.val.cell? ⟨w2.heap.size, 5, none⟩ = some (.slice hk.k.A o.bs.length hk.k.c) := Ws.same (bs := []) KS3.out.lt (KS3.out.cell 5)
          have HF3 := Lib.hid (fr_none w3)
          haveI hne := Nonempty.intro (Ws.mk _ (fr_none w3))
          go_wp2_with fail
          refine region_tail (C := In (Fr w3 [])) 6 (by kernel_rfl) (In.mk HF3.out.drew) ?_
          simp only [List.take_succ_cons, List.take_zero, List.drop_succ_cons, List.drop_zero]
          repeat (go_big_quiet_step (fail))
          refine wpQuiet_nil ?_
          rintro _ ⟨y5, rfl⟩
          have b5 := y5.ok.below
          obtain ⟨w5, hw5⟩ : ∃ w5, w5 = y5.val := ⟨_, rfl⟩
          rw [← hw5] at b5 ⊢
          have B5 := Lib.hid (B3.out.trans (b5.mono (by omega)))
          have z5 := b5.size
          clear g_p g_x g_0 g_1 g_2 g_3 g_4 g_5 hne hw5 b5
          go_wp2_with fail
          refine (DO.out w5 B5.out).mono ?_
          rintro e w6 ⟨k4, rfl, hb6, oi6⟩
          have z6 := hb6.size
          have B6 := Lib.hid (B5.out.trans (hb6.mono (by omega)))
          have KS6 := Lib.hid (KS.out.below B6.out ls)
          have O6 := Lib.hid oi6
          clear hb6 oi6 DO
          have ls6 := KS6.out.lt
          have c0 : w6.cell? ⟨w2.heap.size, 0, none⟩ = some (.slice hk.h.A0 o.st.f0.length hk.h.c0) := KS6.out.cell 0
          have q0 := KS6.out.free 0
          have c1 : w6.cell? ⟨w2.heap.size, 1, none⟩ = some (.slice hk.h.A1 o.st.f1.length hk.h.c1) := KS6.out.cell 1
          have q1 := KS6.out.free 1
          have c2 : w6.cell? ⟨w2.heap.size, 2, none⟩ = some (.slice hk.h.A2 o.st.f2.length hk.h.c2) := KS6.out.cell 2
          have q2 := KS6.out.free 2
          have c3 : w6.cell? ⟨w2.heap.size, 3, none⟩ = some (.slice hk.h.A3 o.st.f3.length hk.h.c3) := KS6.out.cell 3
          have q3 := KS6.out.free 3
          have c4 : w6.cell? ⟨w2.heap.size, 4, none⟩ = some (.slice hk.h.A4 o.st.f4.length hk.h.c4) := KS6.out.cell 4
          have q4 := KS6.out.free 4
          have c5 : w6.cell? ⟨w2.heap.size, 5, none⟩ = some (.slice hk.k.A o.bs.length hk.k.c) := KS6.out.cell 5
          have q5 := KS6.out.free 5
          have KN := Lib.hid (show Bk ((((((w6.setCell ⟨w2.heap.size, 0, none⟩ (.slice k4.h.A0 o2.st.f0.length k4.h.c0)).setCell ⟨w2.heap.size, 1, none⟩ (.slice k4.h.A1 o2.st.f1.length k4.h.c1)).setCell ⟨w2.heap.size, 2, none⟩ (.slice k4.h.A2 o2.st.f2.length k4.h.c2)).setCell ⟨w2.heap.size, 3, none⟩ (.slice k4.h.A3 o2.st.f3.length k4.h.c3)).setCell ⟨w2.heap.size, 4, none⟩ (.slice k4.h.A4 o2.st.f4.length k4.h.c4)).setCell ⟨w2.heap.size, 5, none⟩ (.slice k4.k.A o2.bs.length k4.k.c)) w2.heap.size 59 #[.slice k4.h.A0 o2.st.f0.length k4.h.c0, .slice k4.h.A1 o2.st.f1.length k4.h.c1, .slice k4.h.A2 o2.st.f2.length k4.h.c2, .slice k4.h.A3 o2.st.f3.length k4.h.c3, .slice k4.h.A4 o2.st.f4.length k4.h.c4, .slice k4.k.A o2.bs.length k4.k.c] by
            have y0 := KS6.out
            have y1 := y0.set 0 (.slice k4.h.A0 o2.st.f0.length k4.h.c0)
            have y2 := y1.set 1 (.slice k4.h.A1 o2.st.f1.length k4.h.c1)
            have y3 := y2.set 2 (.slice k4.h.A2 o2.st.f2.length k4.h.c2)
            have y4 := y3.set 3 (.slice k4.h.A3 o2.st.f3.length k4.h.c3)
            have y5 := y4.set 4 (.slice k4.h.A4 o2.st.f4.length k4.h.c4)
            have y6 := y5.set 5 (.slice k4.k.A o2.bs.length k4.k.c)
            simpa using y6)
          have BN := Lib.hid (show Below w2.heap.size w2 ((((((w6.setCell ⟨w2.heap.size, 0, none⟩ (.slice k4.h.A0 o2.st.f0.length k4.h.c0)).setCell ⟨w2.heap.size, 1, none⟩ (.slice k4.h.A1 o2.st.f1.length k4.h.c1)).setCell ⟨w2.heap.size, 2, none⟩ (.slice k4.h.A2 o2.st.f2.length k4.h.c2)).setCell ⟨w2.heap.size, 3, none⟩ (.slice k4.h.A3 o2.st.f3.length k4.h.c3)).setCell ⟨w2.heap.size, 4, none⟩ (.slice k4.h.A4 o2.st.f4.length k4.h.c4)).setCell ⟨w2.heap.size, 5, none⟩ (.slice k4.k.A o2.bs.length k4.k.c)) from (((((((HBel.out.trans (B6.out.mono hz)).setCell (p := ⟨w2.heap.size, 0, none⟩) (by show w2.heap.size ≤ w2.heap.size; omega) _).setCell (p := ⟨w2.heap.size, 1, none⟩) (by show w2.heap.size ≤ w2.heap.size; omega) _).setCell (p := ⟨w2.heap.size, 2, none⟩) (by show w2.heap.size ≤ w2.heap.size; omega) _).setCell (p := ⟨w2.heap.size, 3, none⟩) (by show w2.heap.size ≤ w2.heap.size; omega) _).setCell (p := ⟨w2.heap.size, 4, none⟩) (by show w2.heap.size ≤ w2.heap.size; omega) _).setCell (p := ⟨w2.heap.size, 5, none⟩) (by show w2.heap.size ≤ w2.heap.size; omega) _))
          have NN := Lib.hid (show ∀ q, q ≠ w2.heap.size → (((((((w6.setCell ⟨w2.heap.size, 0, none⟩ (.slice k4.h.A0 o2.st.f0.length k4.h.c0)).setCell ⟨w2.heap.size, 1, none⟩ (.slice k4.h.A1 o2.st.f1.length k4.h.c1)).setCell ⟨w2.heap.size, 2, none⟩ (.slice k4.h.A2 o2.st.f2.length k4.h.c2)).setCell ⟨w2.heap.size, 3, none⟩ (.slice k4.h.A3 o2.st.f3.length k4.h.c3)).setCell ⟨w2.heap.size, 4, none⟩ (.slice k4.h.A4 o2.st.f4.length k4.h.c4)).setCell ⟨w2.heap.size, 5, none⟩ (.slice k4.k.A o2.bs.length k4.k.c))).heap[q]? = w6.heap[q]? from fun q hq => (Below.heap_setCell _ _ _ q (by show q ≠ w2.heap.size; omega)).trans ((Below.heap_setCell _ _ _ q (by show q ≠ w2.heap.size; omega)).trans ((Below.heap_setCell _ _ _ q (by show q ≠ w2.heap.size; omega)).trans ((Below.heap_setCell _ _ _ q (by show q ≠ w2.heap.size; omega)).trans ((Below.heap_setCell _ _ _ q (by show q ≠ w2.heap.size; omega)).trans (Below.heap_setCell _ _ _ q (by show q ≠ w2.heap.size; omega)))))))
          have SN := Lib.hid (show (((((((w6.setCell ⟨w2.heap.size, 0, none⟩ (.slice k4.h.A0 o2.st.f0.length k4.h.c0)).setCell ⟨w2.heap.size, 1, none⟩ (.slice k4.h.A1 o2.st.f1.length k4.h.c1)).setCell ⟨w2.heap.size, 2, none⟩ (.slice k4.h.A2 o2.st.f2.length k4.h.c2)).setCell ⟨w2.heap.size, 3, none⟩ (.slice k4.h.A3 o2.st.f3.length k4.h.c3)).setCell ⟨w2.heap.size, 4, none⟩ (.slice k4.h.A4 o2.st.f4.length k4.h.c4)).setCell ⟨w2.heap.size, 5, none⟩ (.slice k4.k.A o2.bs.length k4.k.c))).heap.size = w6.heap.size by simp)
          go_wp2
          go_roundw
          case rel => exact ⟨n + 1, f2, b2, o2, k4, w5.heap.size, w6.heap.size, by omega, by go_num, BN.out, KN.out, O6.out.keep (Nat.le_refl _) (Nat.le_refl _) (fun q h1 h2 => NN.out q (by omega)), by omega, by omega, Nat.le_of_eq SN.out.symm, Or.inr (by omega), I2, HO2, Hn⟩
          case measure => simp [intOf]; omega
    · have hq0 : q = some (f, b) := by
        have := hrest.out
        rw [List.drop_eq_nil_of_le (by omega)] at this
        unfold runQ at this
        exact this.symm
      subst hq0
      have hi2 : ¬ (n : Int) < (xs.length : Int) := by omega
      have c0 : wr.cell? ⟨w2.heap.size, 0, none⟩ = some (.slice hk.h.A0 o.st.f0.length hk.h.c0) := KS.out.cell 0
      have c1 : wr.cell? ⟨w2.heap.size, 1, none⟩ = some (.slice hk.h.A1 o.st.f1.length hk.h.c1) := KS.out.cell 1
      have c2 : wr.cell? ⟨w2.heap.size, 2, none⟩ = some (.slice hk.h.A2 o.st.f2.length hk.h.c2) := KS.out.cell 2
      have c3 : wr.cell? ⟨w2.heap.size, 3, none⟩ = some (.slice hk.h.A3 o.st.f3.length hk.h.c3) := KS.out.cell 3
      have c4 : wr.cell? ⟨w2.heap.size, 4, none⟩ = some (.slice hk.h.A4 o.st.f4.length hk.h.c4) := KS.out.cell 4
      have c5 : wr.cell? ⟨w2.heap.size, 5, none⟩ = some (.slice hk.k.A o.bs.length hk.k.c) := KS.out.cell 5
      have fr0 : wr.frozen? ⟨w.heap.size + 1, 0, none⟩ = false := (K1R.out).free 0
      have cr0 : wr.cell? ⟨w.heap.size + 1, 0, none⟩ = some (.slice none 0 0) := (K1R.out).cell 0
      have fr1 : wr.frozen? ⟨w.heap.size + 1, 1, none⟩ = false := (K1R.out).free 1
      have cr1 : wr.cell? ⟨w.heap.size + 1, 1, none⟩ = some (.slice none 0 0) := (K1R.out).cell 1
      have fr2 : wr.frozen? ⟨w.heap.size + 1, 2, none⟩ = false := (K1R.out).free 2
      have cr2 : wr.cell? ⟨w.heap.size + 1, 2, none⟩ = some (.slice none 0 0) := (K1R.out).cell 2
      have fr3 : wr.frozen? ⟨w.heap.size + 1, 3, none⟩ = false := (K1R.out).free 3
      have cr3 : wr.cell? ⟨w.heap.size + 1, 3, none⟩ = some (.slice none 0 0) := (K1R.out).cell 3
      have fr4 : wr.frozen? ⟨w.heap.size + 1, 4, none⟩ = false := (K1R.out).free 4
      have cr4 : wr.cell? ⟨w.heap.size + 1, 4, none⟩ = some (.slice none 0 0) := (K1R.out).cell 4
      have fr5 : wr.frozen? ⟨w.heap.size + 1, 5, none⟩ = false := (K1R.out).free 5
      have cr5 : wr.cell? ⟨w.heap.size + 1, 5, none⟩ = some (.slice none 0 0) := (K1R.out).cell 5
      go_wp2
      clear cr0 fr0 c0 cr1 fr1 c1 cr2 fr2 c2 cr3 fr3 c3 cr4 fr4 c4 cr5 fr5 c5
      have kF : Bk ((((((wr.setCell ⟨w.heap.size + 1, 0, none⟩ (.slice hk.h.A0 o.st.f0.length hk.h.c0)).setCell ⟨w.heap.size + 1, 1, none⟩ (.slice hk.h.A1 o.st.f1.length hk.h.c1)).setCell ⟨w.heap.size + 1, 2, none⟩ (.slice hk.h.A2 o.st.f2.length hk.h.c2)).setCell ⟨w.heap.size + 1, 3, none⟩ (.slice hk.h.A3 o.st.f3.length hk.h.c3)).setCell ⟨w.heap.size + 1, 4, none⟩ (.slice hk.h.A4 o.st.f4.length hk.h.c4)).setCell ⟨w.heap.size + 1, 5, none⟩ (.slice hk.k.A o.bs.length hk.k.c)) (w.heap.size + 1) 59 #[.slice hk.h.A0 o.st.f0.length hk.h.c0, .slice hk.h.A1 o.st.f1.length hk.h.c1, .slice hk.h.A2 o.st.f2.length hk.h.c2, .slice hk.h.A3 o.st.f3.length hk.h.c3, .slice hk.h.A4 o.st.f4.length hk.h.c4, .slice hk.k.A o.bs.length hk.k.c] := by
        have a0 := K1R.out
        have a1 := a0.set 0 (.slice hk.h.A0 o.st.f0.length hk.h.c0)
        have a2 := a1.set 1 (.slice hk.h.A1 o.st.f1.length hk.h.c1)
        have a3 := a2.set 2 (.slice hk.h.A2 o.st.f2.length hk.h.c2)
        have a4 := a3.set 3 (.slice hk.h.A3 o.st.f3.length hk.h.c3)
        have a5 := a4.set 4 (.slice hk.h.A4 o.st.f4.length hk.h.c4)
        have a6 := a5.set 5 (.slice hk.k.A o.bs.length hk.k.c)
        simpa using a6
      have bF : ∀ B, B ≤ w.heap.size + 1 → Below B wr ((((((wr.setCell ⟨w.heap.size + 1, 0, none⟩ (.slice hk.h.A0 o.st.f0.length hk.h.c0)).setCell ⟨w.heap.size + 1, 1, none⟩ (.slice hk.h.A1 o.st.f1.length hk.h.c1)).setCell ⟨w.heap.size + 1, 2, none⟩ (.slice hk.h.A2 o.st.f2.length hk.h.c2)).setCell ⟨w.heap.size + 1, 3, none⟩ (.slice hk.h.A3 o.st.f3.length hk.h.c3)).setCell ⟨w.heap.size + 1, 4, none⟩ (.slice hk.h.A4 o.st.f4.length hk.h.c4)).setCell ⟨w.heap.size + 1, 5, none⟩ (.slice hk.k.A o.bs.length hk.k.c)) := fun B hB => (((((((Below.refl _ _).setCell (by show B ≤ w.heap.size + 1; omega) _).setCell (by show B ≤ w.heap.size + 1; omega) _).setCell (by show B ≤ w.heap.size + 1; omega) _).setCell (by show B ≤ w.heap.size + 1; omega) _).setCell (by show B ≤ w.heap.size + 1; omega) _).setCell (by show B ≤ w.heap.size + 1; omega) _)
      have nF : ∀ q, q ≠ w.heap.size + 1 → ((((((wr.setCell ⟨w.heap.size + 1, 0, none⟩ (.slice hk.h.A0 o.st.f0.length hk.h.c0)).setCell ⟨w.heap.size + 1, 1, none⟩ (.slice hk.h.A1 o.st.f1.length hk.h.c1)).setCell ⟨w.heap.size + 1, 2, none⟩ (.slice hk.h.A2 o.st.f2.length hk.h.c2)).setCell ⟨w.heap.size + 1, 3, none⟩ (.slice hk.h.A3 o.st.f3.length hk.h.c3)).setCell ⟨w.heap.size + 1, 4, none⟩ (.slice hk.h.A4 o.st.f4.length hk.h.c4)).setCell ⟨w.heap.size + 1, 5, none⟩ (.slice hk.k.A o.bs.length hk.k.c)).heap[q]? = wr.heap[q]? := fun q hq => (Below.heap_setCell _ _ _ q (by show q ≠ w.heap.size + 1; omega)).trans ((Below.heap_setCell _ _ _ q (by show q ≠ w.heap.size + 1; omega)).trans ((Below.heap_setCell _ _ _ q (by show q ≠ w.heap.size + 1; omega)).trans ((Below.heap_setCell _ _ _ q (by show q ≠ w.heap.size + 1; omega)).trans ((Below.heap_setCell _ _ _ q (by show q ≠ w.heap.size + 1; omega)).trans (Below.heap_setCell _ _ _ q (by show q ≠ w.heap.size + 1; omega))))))
      have sF : ((((((wr.setCell ⟨w.heap.size + 1, 0, none⟩ (.slice hk.h.A0 o.st.f0.length hk.h.c0)).setCell ⟨w.heap.size + 1, 1, none⟩ (.slice hk.h.A1 o.st.f1.length hk.h.c1)).setCell ⟨w.heap.size + 1, 2, none⟩ (.slice hk.h.A2 o.st.f2.length hk.h.c2)).setCell ⟨w.heap.size + 1, 3, none⟩ (.slice hk.h.A3 o.st.f3.length hk.h.c3)).setCell ⟨w.heap.size + 1, 4, none⟩ (.slice hk.h.A4 o.st.f4.length hk.h.c4)).setCell ⟨w.heap.size + 1, 5, none⟩ (.slice hk.k.A o.bs.length hk.k.c)).heap.size = wr.heap.size := by simp
      have KF := Lib.hid kF
      have BF := Lib.hid bF
      have NF := Lib.hid nF
      obtain ⟨F, hF⟩ : ∃ F, F = ((((((wr.setCell ⟨w.heap.size + 1, 0, none⟩ (.slice hk.h.A0 o.st.f0.length hk.h.c0)).setCell ⟨w.heap.size + 1, 1, none⟩ (.slice hk.h.A1 o.st.f1.length hk.h.c1)).setCell ⟨w.heap.size + 1, 2, none⟩ (.slice hk.h.A2 o.st.f2.length hk.h.c2)).setCell ⟨w.heap.size + 1, 3, none⟩ (.slice hk.h.A3 o.st.f3.length hk.h.c3)).setCell ⟨w.heap.size + 1, 4, none⟩ (.slice hk.h.A4 o.st.f4.length hk.h.c4)).setCell ⟨w.heap.size + 1, 5, none⟩ (.slice hk.k.A o.bs.length hk.k.c)) := ⟨_, rfl⟩
      rw [← hF] at KF BF NF sF
      rw [← hF]
      clear kF bF nF hF
      have sFa := Nat.le_of_eq sF
      have sFb := Nat.le_of_eq sF.symm
      clear sF
      have cF0 := KF.out.cell 0
      have cF1 := KF.out.cell 1
      have cF2 := KF.out.cell 2
      have cF3 := KF.out.cell 3
      have cF4 := KF.out.cell 4
      have cF5 := KF.out.cell 5
      simp only [List.getElem?_toArray, List.getElem?_cons_zero, List.getElem?_cons_succ] at cF0 cF1 cF2 cF3 cF4 cF5
      refine bodyPost_ret (v := .tuple #[.agg #[.slice hk.h.A0 o.st.f0.length hk.h.c0, .slice hk.h.A1 o.st.f1.length hk.h.c1, .slice hk.h.A2 o.st.f2.length hk.h.c2, .slice hk.h.A3 o.st.f3.length hk.h.c3, .slice hk.h.A4 o.st.f4.length hk.h.c4, .slice hk.k.A o.bs.length hk.k.c], .bool true]) (by simp [results, Try.results46, cF0, cF1, cF2, cF3, cF4, cF5, go_sem]) rfl ?_
      show AnsIBuf w (bufOfO L (some (f, b))) _ _ _
      rw [show bufOfO L (some (f, b)) = o from hO.out.symm]
      exact ⟨hk, rfl, BR.out.trans (BF.out _ (by omega)), by omega, OS.out.keep (by omega) (by omega) fun q h1 h2 => NF.out q (by omega)⟩
end Go.Proofs.Ytnadihepgmbhaaa
