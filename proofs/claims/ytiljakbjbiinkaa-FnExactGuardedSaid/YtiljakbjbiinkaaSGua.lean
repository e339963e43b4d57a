/-
  What the reference model's Guards comes to.
-/
import Derived.Test.YtiljakbjbiinkaaSLkp
import Derived.Test.YtiljakbjbiinkaaIGua
namespace Go.Proofs.Ytiljakbjbiinkaa
open Go.RowKit Pl
set_option maxHeartbeats 8000000
set_option maxRecDepth 100000
set_option linter.unusedVariables false

/-- The table of places and locks at work, and the orders that stand behind it. -/
structure GuS (w1 w3 wr : World) (lo g hi : Nat) (D : Nat → Nat) (M : Nat → Nat → Bool) : Prop where
  ph : PhR w1 wr lo g hi 2 3 D M
  fr : ∀ q, hi ≤ q → q < w3.heap.size → wr.heap[q]? = w3.heap[q]?
  sz : w3.heap.size ≤ wr.heap.size
  h0 : lo ≤ hi
  h1 : hi ≤ w3.heap.size
theorem GuS.kept {w1 w3 wr wv : World} {lo g hi B : Nat} {D : Nat → Nat} {M : Nat → Nat → Bool} (h : GuS w1 w3 wr lo g hi D M) (hb : Below B wr wv) (hB : w3.heap.size ≤ B) : GuS w1 w3 wv lo g hi D M := by
  have a := h.h0
  have b := h.h1
  exact ⟨h.ph.kept hb (by omega) (by omega), fun q h2 h3 => (hb.block q (by omega)).trans (h.fr q h2 h3), Nat.le_trans h.sz hb.size, a, b⟩
theorem GuS.putv {w1 w3 wr : World} {lo g hi : Nat} {D : Nat → Nat} {M : Nat → Nat → Bool} (h : GuS w1 w3 wr lo g hi D M) {i k : Nat} (hi' : i < 3) (hk : k < 2) (v : Bool) : GuS w1 w3 (wr.setCell ⟨D i, k, none⟩ (.bool v)) lo g hi D (putV M i k v) := by
  obtain ⟨a, b, -⟩ := h.ph.tab.1 i hi'
  exact ⟨h.ph.putv hi' hk v, fun q h2 h3 => (Below.heap_setCell _ _ _ q (by show q ≠ D i; omega)).trans (h.fr q h2 h3), by rw [World.size_setCell]; exact h.sz, h.h0, h.h1⟩
theorem GuS.congr {w1 w3 wr : World} {lo g hi : Nat} {D : Nat → Nat} {M M' : Nat → Nat → Bool} (h : GuS w1 w3 wr lo g hi D M) (e : ∀ i j, i < 3 → j < 2 → M i j = M' i j) : GuS w1 w3 wr lo g hi D M' := ⟨h.ph.congr e, h.fr, h.sz, h.h0, h.h1⟩
theorem GuS.cell {w1 w3 wr : World} {lo g hi : Nat} {D : Nat → Nat} {M : Nat → Nat → Bool} (h : GuS w1 w3 wr lo g hi D M) {b o : Nat} {u : Option Value} (hb : hi ≤ b) (hl : b < w3.heap.size) (hc : w3.cell? ⟨b, o, none⟩ = u) : wr.cell? ⟨b, o, none⟩ = u := by
  rw [← hc]
  unfold World.cell?
  rw [h.fr b hb hl]
def anyG (L : Pg) (vs : List Mv) (p l : Nat) : Bool := vs.any fun m => lkB L m p l
def allG (L : Pg) (os : List (List Int)) (p l : Nat) : Bool := os.any fun r => anyG L (visits L (keptF L zeroF L.length) r) p l
theorem allG_next {L : Pg} {os : List (List Int)} {k : Nat} {x : List Int} (hx : os[k]? = some x) (p l : Nat) : (allG L (os.take k) p l || anyG L (visits L (keptF L zeroF L.length) x) p l) = allG L (os.take (k + 1)) p l := by
  unfold allG
  rw [List.take_add_one, hx, List.any_append]
  simp
/-- The table while the locks are gone through. -/
def mg (L : Pg) (Mk : Nat → Nat → Bool) (m : Mv) (q : Nat) : Nat → Nat → Bool := fun p l => Mk p l && !(decide (l < q) && lkB L m p l)
theorem mg_next {L : Pg} {Mk : Nat → Nat → Bool} {f : Nat → Nat} {t q n : Nat} {val : Bool} (hl : ∀ p l : Nat, lkB L ⟨f, t⟩ p l = ((n : Int) == (p : Int) && !(f (18 + l) == t + 1))) (hv : val = (mg L Mk ⟨f, t⟩ q n q && (f (18 + q) == t + 1))) : ∀ p l, p < 3 → l < 2 → putV (mg L Mk ⟨f, t⟩ q) n q val p l = mg L Mk ⟨f, t⟩ (q + 1) p l := fun p l hp hl2 => by
  unfold putV
  by_cases e : p = n ∧ l = q
  · rw [if_pos e]
    obtain ⟨rfl, rfl⟩ := e
    rw [hv]
    unfold mg
    rw [hl]
    simp
  · rw [if_neg e]
    unfold mg
    rw [hl]
    by_cases hq : l = q
    · subst hq
      have hne : ((n : Int) == (p : Int)) = false := by
        rw [beq_eq_false_iff_ne]
        intro e2
        exact e ⟨by omega, rfl⟩
      rw [hne]; simp
    · have : decide (l < q) = decide (l < q + 1) := by rw [decide_eq_decide]; omega
      rw [this]
theorem sgua_any (h : PgH) (L : Pg) (w : World) (B : Nat) (hP : PgR w B h L) (hB : B ≤ w.heap.size) (SP : PgS L) :
    Calls Try.prog 56 #[PgV h L] w (AnsBs w (guE L) (progB L)) := by
  obtain ⟨W, hW⟩ : ∃ W, W = w.alloc (.cells #[.slice h.A L.length h.c] 30) := ⟨_, rfl⟩
  have bW : Below w.heap.size w W := by rw [hW]; go_grown
  have KW := Lib.hid (show Bk W w.heap.size 30 #[.slice h.A L.length h.c] by rw [hW]; exact Bk.new _ _ _)
  have BW := Lib.hid bW
  have P0 := Lib.hid (hP.below bW hB)
  have HW := Lib.hid hW
  have hz := bW.size
  have hsl := SP.l
  have c0 : W.cell? ⟨w.heap.size, 0, none⟩ = some (.slice h.A L.length h.c) := KW.out.cell 0
  have l0 := KW.out.lt
  clear hW bW hP
  unfold guE
  rcases Bool.eq_false_or_eq_true (progB L) with hL | hL
  rotate_left
  · rw [hL, if_neg (by simp)]
    have HL := Lib.hid hL
    clear hL
    go_enter Try.func56, Try.ntmps56
    go_wp2_with fail
    rw [← HW.out]
    go_wp2_with fail
    refine (sprog_any h.A L h.c W B P0.out (by omega) hsl (Lib.hid SP.e) false HL).mono ?_
    rintro e w1 ⟨rfl, hb⟩
    have B1 := Lib.hid (below_on BW.out hb)
    clear hb c0
    go_wp2
    go_returns
    exact ⟨⟨none, 0⟩, rfl, B1.out, B1.out.size, ⟨OwnVss.nil _ _ _ _ _ _⟩⟩
  rw [hL, if_pos rfl]
  have HL := Lib.hid hL
  have l3 := (prog_len hL).2
  have l1 := (prog_len hL).1
  clear hL
  obtain ⟨E, hE⟩ : ∃ E, matR 3 2 (guM L) = E := ⟨_, rfl⟩
  rw [hE]
  have HE := Lib.hid hE
  clear hE
  obtain ⟨i0, hi, hz0, hz1, hz2⟩ := info_parts Try.info4
  have hmk := make_any Try.underlying62 hi hz0 2 (by rw [hz2]; omega) (by omega)
  rw [hz1, show ((2 : Nat) : Int) = 2 from rfl, show 2 * 1 = 2 from rfl] at hmk
  obtain ⟨i1, hi1, jz0, jz1, jz2⟩ := info_parts Try.info62
  clear hz0 hz1 hz2 hi
  go_enter Try.func56, Try.ntmps56
  go_wp2_with fail
  rw [← HW.out]
  go_wp2_with fail
  refine (sprog_any h.A L h.c W B P0.out (by omega) hsl (Lib.hid SP.e) true HL).mono ?_
  rintro e w1 ⟨rfl, hb⟩
  have B1 := Lib.hid (below_on BW.out hb)
  have K1 := Lib.hid (KW.out.below hb KW.out.lt)
  have P1 := Lib.hid (P0.out.below hb (by omega))
  have z1 := hb.size
  have lk1 := K1.out.lt
  have start : Hid ((w1.alloc (.cells #[] 62)).ownsRow w1.heap.size 62 1 (.slice (some ⟨w1.heap.size, 0, none⟩) 0 0) 0 (heads 2 0 (fun _ => 0)) ∧ Tab (w1.alloc (.cells #[] 62)) w1.heap.size (w1.alloc (.cells #[] 62)).heap.size 2 0 (fun _ => 0) (fun _ _ => true) ∧ Below w1.heap.size w1 (w1.alloc (.cells #[] 62))) := Lib.hid
    ⟨by rw [show heads 2 0 (fun _ => 0) = [] from rfl]; exact World.ownsRow_made w1 #[] 0 (Nat.le_refl _) (by decide) (by simp), Tab.nil _ _ _ _ _ _, (Below.refl _ _).alloc (Nat.le_refl _) _⟩
  clear hb c0
  go_wp2
  go_loopw [4, 5] (fun ov iv wr => ∃ (i g cap : Nat) (D : Nat → Nat), i ≤ 3 ∧ iv = .int .i64 i ∧ ov = .slice (some ⟨g, 0, none⟩) i cap ∧ w1.heap.size ≤ g ∧ wr.ownsRow w1.heap.size 62 1 (.slice (some ⟨g, 0, none⟩) i cap) i (heads 2 i D) ∧ Tab wr w1.heap.size wr.heap.size 2 i D (fun _ _ => true) ∧ Below w1.heap.size w1 wr) (fun _ iv _ => 3 - (intOf iv).toNat)
  case atStart => exact ⟨0, _, 0, _, by omega, rfl, rfl, Nat.le_refl _, start.out.1, start.out.2.1, start.out.2.2⟩
  case round =>
    obtain ⟨i, g, cap, D, hi2, rfl, rfl, hgg, hown, htab, hbel⟩ := hrel
    clear start
    have hzr := hbel.size
    have HO := Lib.hid hown
    have HT := Lib.hid htab
    have HB := Lib.hid hbel
    clear hown htab hbel
    by_cases hlt : i < 3
    · have hi3 : (i : Int) < 3 := by omega
      obtain ⟨wo, rfl⟩ : ∃ wo : World, wo = wr := ⟨_, rfl⟩
      have start2 := Lib.hid (RowB.start (wo := wo) (n := 2) (q := 0) (f := fun _ => true) fun j hj => absurd hj (by omega))
      go_wp2_with fail
      go_loopw [7] (fun j w2 => ∃ q : Nat, q ≤ 2 ∧ j = .int .i64 q ∧ RowB wo w2 2 q (fun _ => true)) (fun j _ => 2 - (intOf j).toNat)
      case atStart => exact ⟨0, by omega, rfl, start2.out⟩
      case round =>
        obtain ⟨q, hq, rfl, hrow⟩ := hrel
        clear start2
        have hzw := hrow.1.size
        have hwo : wo.heap.size < wr.heap.size := by obtain ⟨_, cs, hb, _⟩ := hrow; exact hb.lt
        by_cases hlq : q < 2
        · have hi2' : (q : Int) < 2 := by omega
          obtain ⟨cr, hbr, hcr, -⟩ := id hrow.2
          obtain ⟨v1, e1⟩ := hbr.some_ (i := q) (by omega)
          have f1 := hbr.free q
          have lR := hbr.lt
          have Fin := Lib.hid (hrow.put (r := true) rfl)
          clear hrow hbr hcr
          go_wp2
          go_roundw
          case rel => exact ⟨q + 1, by omega, by go_num, Fin.out⟩
          case measure => simp [intOf]; omega
        · have hqq : q = 2 := by omega
          subst hqq
          have HROW := Lib.hid hrow
          have HO' := Lib.hid (HO.out.kept (grown_of_below hrow.1 none) (by simp [Value.ownBlock]))
          clear hrow
          go_wp2_with (at_builtin; refine wpList_append_own _ rfl (.tmp 32) (.tmp 34) 86 rfl w1.heap.size 62 i1 _ 1 24 Try.underlying86 hi1 jz0 jz1 jz2 rfl (by decide) _ i (heads 2 i D) rfl (HO'.out.alloc _) ⟨_, 0, none⟩ 1 1 [.slice (some ⟨wo.heap.size, 0, none⟩) 2 2] rfl rfl (cell1_new _ _ _) (by intro u hu; simp at hu; subst hu; rfl) (by unfold maxLen; omega) (by omega) (by simp; omega) ?_; intro v' w4 own4 grow4 _; obtain ⟨g4, cap4, rfl, hg4, hlt4⟩ := own4.form (by omega); have Next := Lib.hid (p1r_next HB.out HT.out HROW.out HO.out grow4); have Own4 := Lib.hid own4; clear own4 grow4)
          go_roundw
          case rel => exact ⟨i + 1, g4, cap4, _, by omega, by go_num, rfl, hg4, by rw [heads_snoc]; exact Own4.out, Next.out.1, Next.out.2⟩
          case measure => simp [intOf]; omega
    · have hie : i = 3 := by omega
      subst hie
      have K2 := Lib.hid (K1.out.below HB.out K1.out.lt)
      have P2 := Lib.hid (P1.out.below HB.out (by omega))
      have PH := Lib.hid (show PhR w1 wr w1.heap.size g wr.heap.size 2 3 D (fun _ _ => true) from ⟨HB.out, Nat.le_refl _, own_vs HO.out rfl, HT.out⟩)
      have cb : wr.cell? ⟨w.heap.size, 0, none⟩ = some (.slice h.A L.length h.c) := K2.out.cell 0
      have lb := K2.out.lt
      obtain ⟨w2, rfl⟩ : ∃ w2 : World, w2 = wr := ⟨_, rfl⟩
      go_wp2_with fail
      refine (orders_any h L HL.out w2 B P2.out (by omega)).mono ?_
      rintro e w3 ⟨⟨A, c⟩, he, hb3, hz3, ho⟩
      have HAL := Lib.hid (show allO L = ordP L 9 (keptF L zeroF L.length) [] from rfl)
      have hll := ordP_len l3 9 (keptF L zeroF L.length) []
      have e9 : (3 : Nat) ^ 9 = 19683 := by decide
      rw [e9, ← HAL.out] at hll
      rw [← HAL.out] at he ho
      have he : e = .returned (.slice A (allO L).length c) := he
      subst he
      have O3 := Lib.hid (show OwnVss w3 w2.heap.size w3.heap.size 39 3 A (vsIss (allO L)) from ho.o0)
      have S3 := Lib.hid (show GuS w1 w3 w3 w1.heap.size g w2.heap.size D (fun _ _ => true) from ⟨PH.out.below hb3 hzr, fun q _ _ => rfl, Nat.le_refl _, hzr, hb3.size⟩)
      have hz23 := hb3.size
      obtain ⟨als, hals⟩ : ∃ als, allO L = als := ⟨_, rfl⟩
      have HALS := Lib.hid hals
      rw [hals] at O3 hll
      rw [hals]
      clear hb3 ho hals hz3 HAL cb HO HT PH
      go_wp2
      go_loopw [9] (fun iv wr => ∃ i : Nat, i ≤ als.length ∧ iv = .int .i64 i ∧ GuS w1 w3 wr w1.heap.size g w2.heap.size D (fun h a => !(allG L (als.take i) h a))) (fun iv _ => als.length - (intOf iv).toNat)
      case atStart => exact ⟨0, Nat.zero_le _, rfl, S3.out.congr fun a b _ _ => by simp [allG]⟩
      case round =>
        obtain ⟨i, hil, rfl, hlk⟩ := hrel
        clear S3
        have LK := Lib.hid hlk
        have hsz := hlk.sz
        have KP := Lib.hid (K1.out.below hlk.ph.bel K1.out.lt)
        have PR := Lib.hid (P1.out.below hlk.ph.bel (by omega))
        have lkp := KP.out.lt
        clear hlk
        by_cases hlt2 : i < als.length
        · have hi3 : (i : Int) < (als.length : Int) := by omega
          obtain ⟨x, hx⟩ : ∃ x, als[i]? = some x := ⟨_, List.getElem?_eq_getElem hlt2⟩
          have hxm : x ∈ allO L := by rw [HALS.out]; exact List.mem_of_getElem? hx
          obtain ⟨gE, hgE, -⟩ := (allO_iff HL.out).1 hxm
          have hx9 := ordP_rows 9 (keptF L zeroF L.length) [] x hxm
          rw [List.length_nil] at hx9
          obtain ⟨ga, cs, Dr, Cr, rfl, hga0, hga1, hbk, hrw, -⟩ := O3.out (by rw [vsIss_length]; omega)
          obtain ⟨hcs, hov⟩ := hrw i (ints x) (vsIss_at hx)
          rw [ints_length] at hcs
          obtain ⟨Dk, hDk⟩ : ∃ Dk, Dr i = Dk := ⟨_, rfl⟩
          obtain ⟨Ck, hCk⟩ : ∃ Ck, Cr i = Ck := ⟨_, rfl⟩
          rw [hDk, hCk] at hcs
          rw [hDk] at hov
          have HH := Lib.hid (show w3.cell? ⟨ga, i, none⟩ = some (.slice Dk x.length Ck) from (hbk.cell i).trans hcs)
          have OV := Lib.hid hov
          have HX := Lib.hid hx
          have HGE := Lib.hid hgE
          have cb : wr.cell? ⟨w.heap.size, 0, none⟩ = some (.slice h.A L.length h.c) := KP.out.cell 0
          clear hx hxm hbk hrw hcs hov hDk hCk hgE
          go_wp2_with fail
          refine (sbegin0_any h L wr l1 l3).mono ?_
          rintro e wb ⟨hs, rfl, hbb, hzb, oi⟩
          rw [← staF_beg L l3] at oi ⊢
          obtain ⟨V, hV⟩ : ∃ V, V = wb.alloc (.cells #[.slice hs.A0 (staF L (keptF L zeroF L.length)).f0.length hs.c0, .slice hs.A1 (staF L (keptF L zeroF L.length)).f1.length hs.c1, .slice hs.A2 (staF L (keptF L zeroF L.length)).f2.length hs.c2, .slice hs.A3 (staF L (keptF L zeroF L.length)).f3.length hs.c3, .slice hs.A4 (staF L (keptF L zeroF L.length)).f4.length hs.c4] 41) := ⟨_, rfl⟩
          have bV : Below wr.heap.size wr V := by rw [hV]; exact hbb.alloc hzb _
          have KV := Lib.hid (show Bk V wb.heap.size 41 #[.slice hs.A0 (staF L (keptF L zeroF L.length)).f0.length hs.c0, .slice hs.A1 (staF L (keptF L zeroF L.length)).f1.length hs.c1, .slice hs.A2 (staF L (keptF L zeroF L.length)).f2.length hs.c2, .slice hs.A3 (staF L (keptF L zeroF L.length)).f3.length hs.c3, .slice hs.A4 (staF L (keptF L zeroF L.length)).f4.length hs.c4] by rw [hV]; exact Bk.new _ _ _)
          have IV := Lib.hid (show StaI V wr.heap.size wb.heap.size hs (staF L (keptF L zeroF L.length)) from oi.below (by rw [hV]; go_grown) (Nat.le_refl _))
          have LKV := Lib.hid (LK.out.kept bV hsz)
          have HV := Lib.hid hV
          have zV : V.heap.size = wb.heap.size + 1 := by rw [hV]; simp
          have zVa := Nat.le_of_eq zV
          have zVb := Nat.le_of_eq zV.symm
          clear hV bV hbb oi cb zV
          go_wp2
          rw [← HV.out]
          obtain ⟨wo, rfl⟩ : ∃ wo : World, wo = wr := ⟨_, rfl⟩
          obtain ⟨bs, hbs⟩ : ∃ bs, wb.heap.size = bs := ⟨_, rfl⟩
          have hbsa := Nat.le_of_eq hbs
          have hbsb := Nat.le_of_eq hbs.symm
          rw [hbs] at KV IV
          rw [hbs]
          have H0 := Lib.hid (show runF L (keptF L zeroF L.length) (x.take 0) = some (keptF L zeroF L.length) from rfl)
          have LK0 := Lib.hid (LKV.out.congr (M' := fun h a => !(allG L (als.take i) h a || anyG L (visits L (keptF L zeroF L.length) (x.take 0)) h a)) fun h a _ _ => by simp [anyG, visits])
          go_loopw [11] (fun kv wr => ∃ (k : Nat) (f : Nat → Nat) (hk : StaH) (lo8 hi8 : Nat), k ≤ x.length ∧ kv = .int .i64 k ∧ Hid (runF L (keptF L zeroF L.length) (x.take k) = some f) ∧ GuS w1 w3 wr w1.heap.size g w2.heap.size D (fun h a => !(allG L (als.take i) h a || anyG L (visits L (keptF L zeroF L.length) (x.take k)) h a)) ∧ Bk wr bs 41 #[.slice hk.A0 (staF L f).f0.length hk.c0, .slice hk.A1 (staF L f).f1.length hk.c1, .slice hk.A2 (staF L f).f2.length hk.c2, .slice hk.A3 (staF L f).f3.length hk.c3, .slice hk.A4 (staF L f).f4.length hk.c4] ∧ StaI wr lo8 hi8 hk (staF L f) ∧ w3.heap.size ≤ lo8 ∧ hi8 ≤ wr.heap.size ∧ (hi8 ≤ bs ∨ bs < lo8)) (fun kv _ => x.length - (intOf kv).toNat)
          case atStart => exact ⟨0, keptF L zeroF L.length, hs, wo.heap.size, bs, Nat.zero_le _, rfl, H0, LK0.out, KV.out, IV.out, hsz, by omega, Or.inl (Nat.le_refl _)⟩
          case round =>
            obtain ⟨k, f, hk, lo8, hi8, hkl, rfl, hrun, hlk, hkS, hoi, hlo, hhi, hap⟩ := hrel
            clear H0 LK0 KV IV LKV
            have LKr := Lib.hid hlk
            have hszr := hlk.sz
            have KSr := Lib.hid hkS
            have OIr := Lib.hid hoi
            have KPr := Lib.hid (K1.out.below hlk.ph.bel K1.out.lt)
            have PRr := Lib.hid (P1.out.below hlk.ph.bel (by omega))
            have lkpr := KPr.out.lt
            have lbs := KSr.out.lt
            have hgal : ga < wr.heap.size := by omega
            have cg : wr.cell? ⟨ga, i, none⟩ = some (.slice Dk x.length Ck) := hlk.cell hga0 hga1 HH.out
            clear hlk hkS hoi
            by_cases hkx : k < x.length
            · have hk1 : (k : Int) < (x.length : Int) := by omega
              obtain ⟨t, hxk, ht, hgo, hrun2, htake⟩ := run_at HGE.out hrun.out hkx
              have HR2 := Lib.hid hrun2
              have HTK := Lib.hid htake
              have I := (run_rch (L := L) .beg hrun.out).inv HL.out
              have HI := Lib.hid I
              have HC := Lib.hid (goB_c ht hgo)
              obtain ⟨hnx, hok⟩ := next_ok HL.out I ht hgo
              obtain ⟨g9, cs9, hDk, hg90, hg91, hbk9, hx9c⟩ := OV.out (by rw [ints_length]; omega)
              subst hDk
              have c9 : wr.cell? ⟨g9, k, none⟩ = some (.int .i64 (t : Int)) := LKr.out.cell hg90 hg91 ((hbk9.cell k).trans (hx9c k _ (ints_at hxk)))
              have hg9w : g9 < wr.heap.size := by omega
              clear hxk hgo hrun2 htake hbk9 hx9c
              go_wp2_with fail
              obtain ⟨b, off, xs, Ai, ci, hA, hb, hxs, hcr, -, hmi, hrow⟩ := pg_at PRr.out ht
              have hgx : L.getD t [] = xs := getD_some hxs
              rw [hgx] at hnx
              obtain ⟨b5, off5, st, hA5, hb5, hst5, -, s0, s1, s2, s3, s4⟩ := hrow.at_ hnx
              have hsm : smAt L t (f (3 + t)) = st := by unfold smAt; rw [hgx]; exact getD_some hst5
              rw [hsm] at hok
              subst hA5
              have hlen : 0 < (ints (staF L f).f0).length := by rw [ints_length, (sta_len L f).1]; omega
              obtain ⟨b2, off2, hA2, hb20, hb21, hcsA⟩ := OIr.out.i0 hlen
              have hat : (ints (staF L f).f0)[t]? = some (.int .i64 ((f (3 + t) : Nat) : Int)) := by
                have e1 : (staF L f).f0[t]? = some (((f (3 + t) : Nat) : Int) + fL 0) := fldI_at ht
                have e : fL 0 = 0 := rfl
                rw [e, Int.add_zero] at e1
                simp [ints, e1]
              have hcA := hcsA t _ hat
              have e0 : wr.cell? ⟨w.heap.size, 0, none⟩ = some (.slice (some ⟨b, off, none⟩) L.length h.c) := by rw [← hA]; exact KPr.out.cell 0
              have e1 : wr.cell? ⟨bs, 0, none⟩ = some (.slice (some ⟨b2, off2, none⟩) (staF L f).f0.length hk.c0) := by rw [← hA2]; exact KSr.out.cell 0
              have hti : (t : Int) < (L.length : Int) := by omega
              have hti2 : (t : Int) < ((staF L f).f0.length : Int) := by rw [(sta_len L f).1]; omega
              have hti3 : ((f (3 + t) : Nat) : Int) < (xs.length : Int) := by omega
              have hbw : b < wr.heap.size := by omega
              have hb2w : b2 < wr.heap.size := by omega
              have hb5w : b5 < wr.heap.size := by omega
              have hm2 : ci ≤ 9223372036854775807 := by unfold maxLen at hmi; omega
              have HSM := Lib.hid hsm
              have HOK := Lib.hid hok
              have HA2 := Lib.hid hA2
              have AllS := Lib.hid (show ∀ w' : World, Below wr.heap.size wr w' → (Below wr.heap.size wr w' ∧ w'.cell? ⟨w.heap.size, 0, none⟩ = some (.slice (some ⟨b, off, none⟩) L.length h.c) ∧ w'.cell? ⟨b, off + t, none⟩ = some (.slice (some ⟨b5, off5, none⟩) xs.length ci) ∧ w'.cell? ⟨bs, 0, none⟩ = some (.slice (some ⟨b2, off2, none⟩) (staF L f).f0.length hk.c0) ∧ w'.cell? ⟨b2, off2 + t, none⟩ = some (.int .i64 ((f (3 + t) : Nat) : Int)) ∧ w'.cell? ⟨b5, off5 + f (3 + t) * 5, none⟩ = some (.int .i64 st.k) ∧ w'.cell? ⟨b5, off5 + f (3 + t) * 5 + 1, none⟩ = some (.int .i64 st.a) ∧ w'.cell? ⟨b5, off5 + f (3 + t) * 5 + 2, none⟩ = some (.int .i64 st.b) ∧ w'.cell? ⟨b5, off5 + f (3 + t) * 5 + 3, none⟩ = some (.int .i64 st.c) ∧ w'.cell? ⟨b5, off5 + f (3 + t) * 5 + 4, none⟩ = some (.bool st.s)) from fun w' hb' => ⟨hb', (hb'.cell (p := ⟨w.heap.size, 0, none⟩) lkpr).trans e0, (hb'.cell (p := ⟨b, off + t, none⟩) hbw).trans hcr, (hb'.cell (p := ⟨bs, 0, none⟩) lbs).trans e1, (hb'.cell (p := ⟨b2, off2 + t, none⟩) hb2w).trans hcA, (hb'.cell (p := ⟨b5, _, none⟩) hb5w).trans s0, (hb'.cell (p := ⟨b5, _, none⟩) hb5w).trans s1, (hb'.cell (p := ⟨b5, _, none⟩) hb5w).trans s2, (hb'.cell (p := ⟨b5, _, none⟩) hb5w).trans s3, (hb'.cell (p := ⟨b5, _, none⟩) hb5w).trans s4⟩)
              clear hA hA2 hxs hrow hst5 hsm hok hlen hcsA hat hgx I
              go_upto_region 22 with (fail)
              go_cut [13] (fun sa wx => GotX wr st sa wx)
              case first =>
                go_region_held3 (fun w' => Below wr.heap.size wr w' ∧ w'.cell? ⟨w.heap.size, 0, none⟩ = some (.slice (some ⟨b, off, none⟩) L.length h.c) ∧ w'.cell? ⟨b, off + t, none⟩ = some (.slice (some ⟨b5, off5, none⟩) xs.length ci) ∧ w'.cell? ⟨bs, 0, none⟩ = some (.slice (some ⟨b2, off2, none⟩) (staF L f).f0.length hk.c0) ∧ w'.cell? ⟨b2, off2 + t, none⟩ = some (.int .i64 ((f (3 + t) : Nat) : Int)) ∧ w'.cell? ⟨b5, off5 + f (3 + t) * 5, none⟩ = some (.int .i64 st.k) ∧ w'.cell? ⟨b5, off5 + f (3 + t) * 5 + 1, none⟩ = some (.int .i64 st.a) ∧ w'.cell? ⟨b5, off5 + f (3 + t) * 5 + 2, none⟩ = some (.int .i64 st.b) ∧ w'.cell? ⟨b5, off5 + f (3 + t) * 5 + 3, none⟩ = some (.int .i64 st.c) ∧ w'.cell? ⟨b5, off5 + f (3 + t) * 5 + 4, none⟩ = some (.bool st.s)) (first | (go_split_ands; exact AllS.out _ (by go_grown)) | (exact AllS.out _ (by go_grown))) (fail)
                all_goals go_wp2_with fail
                all_goals go_meet
                all_goals first | exact gotX_late (Below.refl _ _) | exact gotX_late (Below.refl _ _).drew | exact gotX_late (show Below wr.heap.size wr _ from by go_grown) | exact gotX_early (Below.refl _ _).drew (Bk.new wr #[.int .i64 0, .int .i64 0, .int .i64 0, .int .i64 0, .bool false] 132) (Nat.le_refl _) | exact gotX_early (show Below wr.heap.size wr _ from by go_grown) (bkx_drew (Bk.new wr #[.int .i64 0, .int .i64 0, .int .i64 0, .int .i64 0, .bool false] 132)) (Nat.le_refl _) | exact gotX_early (show Below wr.heap.size wr _ from by go_grown) (Bk.new wr #[.int .i64 0, .int .i64 0, .int .i64 0, .int .i64 0, .bool false] 132) (Nat.le_refl _) | trace_state
              clear AllS cg c9
              obtain ⟨bx, rfl, hbz, hx1, hx2, kx⟩ := hcut
              obtain ⟨z, rfl⟩ : ∃ V, V = wc := ⟨_, rfl⟩
              have hzz := hbz.size
              have LKz := Lib.hid (LKr.out.kept hbz hszr)
              have KSz := Lib.hid (KSr.out.below hbz lbs)
              have OIz := Lib.hid (OIr.out.below hbz hhi)
              have KX := Lib.hid kx
              have HGAz := Lib.hid (hbz.cell (p := ⟨ga, i, none⟩) hgal)
              clear hbz kx
              obtain ⟨Mk, hMk⟩ : ∃ Mk, (fun h a => !(allG L (als.take i) h a || anyG L (visits L (keptF L zeroF L.length) (x.take k)) h a)) = Mk := ⟨_, rfl⟩
              rw [hMk] at LKz
              have HMK := Lib.hid hMk
              clear hMk
              have x0 : z.cell? ⟨bx, 0, none⟩ = some (.int .i64 st.k) := KX.out.cell 0
              have x1 : z.cell? ⟨bx, 1, none⟩ = some (.int .i64 st.a) := KX.out.cell 1
              have x2 : z.cell? ⟨bx, 2, none⟩ = some (.int .i64 st.b) := KX.out.cell 2
              have x3 : z.cell? ⟨bx, 3, none⟩ = some (.int .i64 st.c) := KX.out.cell 3
              have x4 : z.cell? ⟨bx, 4, none⟩ = some (.bool st.s) := KX.out.cell 4
              have lx := KX.out.lt
              have hpl := Lib.hid (fun (V : World) => splace_any st.k st.a st.b st.c st.s V)
              have hlim := place_lim (k := st.k) (a := st.a) (b := st.b) (c := st.c) (s := st.s)
              have hlk := Lib.hid (fun (p l : Nat) => show lkB L ⟨f, t⟩ p l = (placeZ st.k st.a st.b st.c st.s == (p : Int) && !(f (18 + l) == t + 1)) from by unfold lkB plZ; rw [HSM.out])
              generalize placeZ st.k st.a st.b st.c st.s = pz at hpl hlim hlk
              go_wp2_with fail
              refine (hpl.out z).mono ?_
              rintro e z2 ⟨rfl, hb2⟩
              have LKz2 := Lib.hid (LKz.out.kept hb2 (by have := LKr.out.sz; omega))
              have KSz2 := Lib.hid (KSz.out.below hb2 KSz.out.lt)
              have OIz2 := Lib.hid (OIz.out.below hb2 (by omega))
              have hzz2 := hb2.size
              clear hb2 x0 x1 x2 x3 x4 lx KX LKz KSz OIz hpl HGAz
              have LQ0 := Lib.hid (LKz2.out.congr (M' := mg L Mk ⟨f, t⟩ 0) fun h a _ _ => by unfold mg; simp)
              have hwz1 : w2.heap.size ≤ z2.heap.size := by omega
              go_wp2
              go_loopw [15] (fun qv wr => ∃ q : Nat, q ≤ 2 ∧ qv = .int .i64 q ∧ (pz = -1 → q = 0) ∧ GuS w1 w3 wr w1.heap.size g w2.heap.size D (mg L Mk ⟨f, t⟩ q) ∧ (∀ p, w2.heap.size ≤ p → wr.heap[p]? = z2.heap[p]?) ∧ wr.heap.size = z2.heap.size) (fun qv _ => 2 - (intOf qv).toNat)
              case atStart => exact ⟨0, by omega, rfl, fun _ => rfl, LQ0.out, fun _ _ => rfl, rfl⟩
              case round =>
                obtain ⟨q, hq2, rfl, hk6, hlq, hfrz, hszz⟩ := hrel
                clear LQ0
                have LQ := Lib.hid hlq
                have hsza := Nat.le_of_eq hszz
                have hszb := Nat.le_of_eq hszz.symm
                have FZ := Lib.hid hfrz
                have KSq := Lib.hid (show Bk wr bs 41 #[.slice hk.A0 (staF L f).f0.length hk.c0, .slice hk.A1 (staF L f).f1.length hk.c1, .slice hk.A2 (staF L f).f2.length hk.c2, .slice hk.A3 (staF L f).f3.length hk.c3, .slice hk.A4 (staF L f).f4.length hk.c4] from (hfrz bs (by omega)).trans KSz2.out)
                have OIq := Lib.hid (OIz2.out.keep (w' := wr) (Nat.le_refl _) (Nat.le_refl _) fun p h1 _ => hfrz p (by omega))
                clear hlq hfrz hszz
                by_cases h6 : ¬ pz = -1
                · by_cases hq3 : q < 2
                  · have hq4 : (q : Int) < 2 := by omega
                    obtain ⟨n, hn, ha⟩ : ∃ n : Nat, n < 3 ∧ pz = (n : Int) := ⟨pz.toNat, by omega, by omega⟩
                    subst ha
                    obtain ⟨hd1, hd2⟩ := LQ.out.ph.head (i := n) hn
                    obtain ⟨hc1, hc2, hc3⟩ := LQ.out.ph.cell (i := n) (k := q) hn hq3
                    have hlen3 : 0 < (ints (staF L f).f3).length := by rw [ints_length, (sta_len L f).2.2.2.1]; omega
                    obtain ⟨b7, off7, hA7, hb70, hb71, hcs7⟩ := OIq.out.i3 hlen3
                    obtain ⟨vz, hvz⟩ : ∃ vz, ((f (18 + q) : Nat) : Int) + fL 3 = vz := ⟨_, rfl⟩
                    have hat3 : (ints (staF L f).f3)[q]? = some (.int .i64 vz) := by
                      have e1 : (staF L f).f3[q]? = some (((f (18 + q) : Nat) : Int) + fL 3) := fldI_at hq3
                      rw [hvz] at e1
                      simp [ints, e1]
                    have hc7 := hcs7 q _ hat3
                    have ebit : (vz == (t : Int)) = (f (18 + q) == t + 1) := by
                      have e : fL 3 = -1 := rfl
                      rw [← hvz, e, Bool.eq_iff_iff]; simp; omega
                    have y3 : wr.cell? ⟨bs, 3, none⟩ = some (.slice (some ⟨b7, off7, none⟩) (staF L f).f3.length hk.c3) := by rw [← hA7]; exact KSq.out.cell 3
                    have lbsq := KSq.out.lt
                    have hti7 : (q : Int) < ((staF L f).f3.length : Int) := by rw [(sta_len L f).2.2.2.1]; omega
                    have hn4 : (n : Int) < 3 := by omega
                    have hn5 : (n : Int) ≥ 0 := by omega
                    have hb7w : b7 < wr.heap.size := by omega
                    obtain ⟨Dq, hDq⟩ : ∃ Dq, D n = Dq := ⟨_, rfl⟩
                    obtain ⟨m0, hm0⟩ : ∃ m0, mg L Mk ⟨f, t⟩ q n q = m0 := ⟨_, rfl⟩
                    obtain ⟨cq, hcq⟩ : ∃ cq, (f (18 + q) == t + 1) = cq := ⟨_, rfl⟩
                    have LN := Lib.hid ((LQ.out.putv hn hq3 (m0 && cq)).congr (mg_next hlk.out (by rw [hm0, hcq])))
                    rw [hDq] at hd1 hc1 hc2 hc3 LN
                    rw [hm0] at hc1
                    rw [hcq] at ebit
                    have hDlt : Hid (Dq < w2.heap.size) := Lib.hid (by rw [← hDq]; exact (LQ.out.ph.tab.1 n hn).2.1)
                    clear hA7 hcs7 hvz hat3 hlen3 hm0 hcq hDq hk6
                    cases m0 <;> cases cq
                    all_goals
                      go_wp2_with fail
                      go_region
                      have Fin := Lib.hid (show GuS w1 w3 ((wr.setCell ⟨Dq, q, none⟩ (.bool _)).drew) w1.heap.size g w2.heap.size D (mg L Mk ⟨f, t⟩ (q + 1)) from LN.out.kept (Below.refl _ _).drew LN.out.sz)
                      have FinZ := Lib.hid (show ∀ (u : Value) p, w2.heap.size ≤ p → ((wr.setCell ⟨Dq, q, none⟩ u).drew).heap[p]? = z2.heap[p]? from fun u p hp => (Below.heap_setCell _ _ _ p (by show p ≠ Dq; have := hDlt.out; omega)).trans (FZ.out p hp))
                      have FinS := Lib.hid (show ∀ (u : Value), ((wr.setCell ⟨Dq, q, none⟩ u).drew).heap.size = z2.heap.size from fun u => (World.size_setCell ..).trans (by omega))
                      clear hd1 hc1 hc3 hc7 y3
                      go_wp2
                      go_roundw
                      case rel => exact ⟨q + 1, by omega, by go_num, fun e => absurd e h6, Fin.out, FinZ.out _, FinS.out _⟩
                      case measure => simp [intOf]; omega
                  · have hqe : q = 2 := by omega
                    have hq4 : ¬ (q : Int) < 2 := by omega
                    have key : ∀ h a, h < 3 → a < 2 → mg L Mk ⟨f, t⟩ q h a = (Mk h a && !(lkB L ⟨f, t⟩ h a)) := fun h a _ hh => by
                      unfold mg
                      rw [decide_eq_true (by omega), Bool.true_and]
                    clear hk6
                    have LKe := Lib.hid (LQ.out.congr (M' := fun h a => !(allG L (als.take i) h a || anyG L (visits L (keptF L zeroF L.length) (x.take (k + 1))) h a)) fun h a hh haa => by
                      rw [key h a hh haa, HTK.out, visits_snoc hrun.out, ← HMK.out]
                      show (!(_ || _) && !(lkB L ⟨f, t⟩ h a)) = _
                      unfold anyG
                      rw [List.any_append]
                      simp [Bool.and_assoc])
                    have PRq := Lib.hid (P1.out.below LQ.out.ph.bel (by omega))
                    have KPq := Lib.hid (K1.out.below LQ.out.ph.bel K1.out.lt)
                    have lkpq := KPq.out.lt
                    have hszq := LQ.out.sz
                    have cp : wr.cell? ⟨w.heap.size, 0, none⟩ = some (.slice h.A L.length h.c) := KPq.out.cell 0
                    have lbsq := KSq.out.lt
                    have cs0 : wr.cell? ⟨bs, 0, none⟩ = some (.slice hk.A0 (staF L f).f0.length hk.c0) := KSq.out.cell 0
                    have cs1 : wr.cell? ⟨bs, 1, none⟩ = some (.slice hk.A1 (staF L f).f1.length hk.c1) := KSq.out.cell 1
                    have cs2 : wr.cell? ⟨bs, 2, none⟩ = some (.slice hk.A2 (staF L f).f2.length hk.c2) := KSq.out.cell 2
                    have cs3 : wr.cell? ⟨bs, 3, none⟩ = some (.slice hk.A3 (staF L f).f3.length hk.c3) := KSq.out.cell 3
                    have cs4 : wr.cell? ⟨bs, 4, none⟩ = some (.slice hk.A4 (staF L f).f4.length hk.c4) := KSq.out.cell 4
                    have hhi2 : hi8 ≤ wr.heap.size := by omega
                    have Hdo := Lib.hid (fun (V' : World) (hb' : Below wr.heap.size wr V') => sdo_any h hk L f t V' wr.heap.size (PRq.out.up hb' (by omega) (by omega)) (OIq.out.rd.up hb' hhi2 hhi2) hb'.size HL.out ht HI.out.good HC.out HI.out.chan)
                    clear key
                    go_wp2_with fail
                    refine (Hdo.out wr (Below.refl _ _)).mono ?_
                    rintro e v ⟨hu, rfl, hv, hzv, ov⟩
                    have KSv := Lib.hid (KSq.out.below hv lbsq)
                    have cv0 : v.cell? ⟨bs, 0, none⟩ = some (.slice hk.A0 (staF L f).f0.length hk.c0) := KSv.out.cell 0
                    have fv0 : v.frozen? ⟨bs, 0, none⟩ = false := KSv.out.free 0
                    have cv1 : v.cell? ⟨bs, 1, none⟩ = some (.slice hk.A1 (staF L f).f1.length hk.c1) := KSv.out.cell 1
                    have fv1 : v.frozen? ⟨bs, 1, none⟩ = false := KSv.out.free 1
                    have cv2 : v.cell? ⟨bs, 2, none⟩ = some (.slice hk.A2 (staF L f).f2.length hk.c2) := KSv.out.cell 2
                    have fv2 : v.frozen? ⟨bs, 2, none⟩ = false := KSv.out.free 2
                    have cv3 : v.cell? ⟨bs, 3, none⟩ = some (.slice hk.A3 (staF L f).f3.length hk.c3) := KSv.out.cell 3
                    have fv3 : v.frozen? ⟨bs, 3, none⟩ = false := KSv.out.free 3
                    have cv4 : v.cell? ⟨bs, 4, none⟩ = some (.slice hk.A4 (staF L f).f4.length hk.c4) := KSv.out.cell 4
                    have fv4 : v.frozen? ⟨bs, 4, none⟩ = false := KSv.out.free 4
                    have lv : bs < v.heap.size := KSv.out.lt
                    have kF : Bk (((((v.setCell ⟨bs, 0, none⟩ (.slice hu.A0 (staF L (stepF L f t)).f0.length hu.c0)).setCell ⟨bs, 1, none⟩ (.slice hu.A1 (staF L (stepF L f t)).f1.length hu.c1)).setCell ⟨bs, 2, none⟩ (.slice hu.A2 (staF L (stepF L f t)).f2.length hu.c2)).setCell ⟨bs, 3, none⟩ (.slice hu.A3 (staF L (stepF L f t)).f3.length hu.c3)).setCell ⟨bs, 4, none⟩ (.slice hu.A4 (staF L (stepF L f t)).f4.length hu.c4)) bs 41 #[.slice hu.A0 (staF L (stepF L f t)).f0.length hu.c0, .slice hu.A1 (staF L (stepF L f t)).f1.length hu.c1, .slice hu.A2 (staF L (stepF L f t)).f2.length hu.c2, .slice hu.A3 (staF L (stepF L f t)).f3.length hu.c3, .slice hu.A4 (staF L (stepF L f t)).f4.length hu.c4] := by
                      have a0 := KSv.out
                      have a1 := a0.set 0 (.slice hu.A0 (staF L (stepF L f t)).f0.length hu.c0)
                      have a2 := a1.set 1 (.slice hu.A1 (staF L (stepF L f t)).f1.length hu.c1)
                      have a3 := a2.set 2 (.slice hu.A2 (staF L (stepF L f t)).f2.length hu.c2)
                      have a4 := a3.set 3 (.slice hu.A3 (staF L (stepF L f t)).f3.length hu.c3)
                      have a5 := a4.set 4 (.slice hu.A4 (staF L (stepF L f t)).f4.length hu.c4)
                      simpa using a5
                    have bF : Below w3.heap.size wr (((((v.setCell ⟨bs, 0, none⟩ (.slice hu.A0 (staF L (stepF L f t)).f0.length hu.c0)).setCell ⟨bs, 1, none⟩ (.slice hu.A1 (staF L (stepF L f t)).f1.length hu.c1)).setCell ⟨bs, 2, none⟩ (.slice hu.A2 (staF L (stepF L f t)).f2.length hu.c2)).setCell ⟨bs, 3, none⟩ (.slice hu.A3 (staF L (stepF L f t)).f3.length hu.c3)).setCell ⟨bs, 4, none⟩ (.slice hu.A4 (staF L (stepF L f t)).f4.length hu.c4)) := (((((hv.mono hszq).setCell (p := ⟨bs, 0, none⟩) (show w3.heap.size ≤ bs by omega) _).setCell (p := ⟨bs, 1, none⟩) (show w3.heap.size ≤ bs by omega) _).setCell (p := ⟨bs, 2, none⟩) (show w3.heap.size ≤ bs by omega) _).setCell (p := ⟨bs, 3, none⟩) (show w3.heap.size ≤ bs by omega) _).setCell (p := ⟨bs, 4, none⟩) (show w3.heap.size ≤ bs by omega) _
                    have nF : ∀ q, q ≠ bs → (((((v.setCell ⟨bs, 0, none⟩ (.slice hu.A0 (staF L (stepF L f t)).f0.length hu.c0)).setCell ⟨bs, 1, none⟩ (.slice hu.A1 (staF L (stepF L f t)).f1.length hu.c1)).setCell ⟨bs, 2, none⟩ (.slice hu.A2 (staF L (stepF L f t)).f2.length hu.c2)).setCell ⟨bs, 3, none⟩ (.slice hu.A3 (staF L (stepF L f t)).f3.length hu.c3)).setCell ⟨bs, 4, none⟩ (.slice hu.A4 (staF L (stepF L f t)).f4.length hu.c4)).heap[q]? = v.heap[q]? := fun q hq => (Below.heap_setCell _ _ _ q hq).trans ((Below.heap_setCell _ _ _ q hq).trans ((Below.heap_setCell _ _ _ q hq).trans ((Below.heap_setCell _ _ _ q hq).trans (Below.heap_setCell _ _ _ q hq))))
                    have zF : v.heap.size ≤ (((((v.setCell ⟨bs, 0, none⟩ (.slice hu.A0 (staF L (stepF L f t)).f0.length hu.c0)).setCell ⟨bs, 1, none⟩ (.slice hu.A1 (staF L (stepF L f t)).f1.length hu.c1)).setCell ⟨bs, 2, none⟩ (.slice hu.A2 (staF L (stepF L f t)).f2.length hu.c2)).setCell ⟨bs, 3, none⟩ (.slice hu.A3 (staF L (stepF L f t)).f3.length hu.c3)).setCell ⟨bs, 4, none⟩ (.slice hu.A4 (staF L (stepF L f t)).f4.length hu.c4)).heap.size := by simp
                    have Ov := Lib.hid ov.in_
                    have HF := Lib.hid kF
                    have BF := Lib.hid bF
                    have NF := Lib.hid nF
                    have ZF := Lib.hid zF
                    have hzv2 := hv.size
                    clear kF bF nF zF hv ov cp cs0 cs1 cs2 cs3 cs4
                    go_wp2
                    go_roundw
                    case rel => exact ⟨k + 1, stepF L f t, hu, wr.heap.size, v.heap.size, by omega, by go_num, HR2, LKe.out.kept BF.out (Nat.le_refl _), HF.out, Ov.out.keep (Nat.le_refl _) (Nat.le_refl _) (fun p (h1 : wr.heap.size ≤ p) _ => NF.out p (by omega)), hszq, ZF.out, Or.inr lbsq⟩
                    case measure => simp [intOf]; omega
                · have hqe := hk6 (by omega)
                  subst hqe
                  have hpm : pz = -1 := by omega
                  subst hpm
                  have key : ∀ h a, h < 3 → a < 2 → mg L Mk ⟨f, t⟩ 0 h a = (Mk h a && !(lkB L ⟨f, t⟩ h a)) := fun h a hh _ => by
                    have hb : ((-1 : Int) == (h : Int)) = false := by rw [beq_eq_false_iff_ne]; omega
                    rw [hlk.out, hb]
                    unfold mg
                    simp
                  clear hk6
                  have LKe := Lib.hid (LQ.out.congr (M' := fun h a => !(allG L (als.take i) h a || anyG L (visits L (keptF L zeroF L.length) (x.take (k + 1))) h a)) fun h a hh haa => by
                    rw [key h a hh haa, HTK.out, visits_snoc hrun.out, ← HMK.out]
                    show (!(_ || _) && !(lkB L ⟨f, t⟩ h a)) = _
                    unfold anyG
                    rw [List.any_append]
                    simp [Bool.and_assoc])
                  have PRq := Lib.hid (P1.out.below LQ.out.ph.bel (by omega))
                  have KPq := Lib.hid (K1.out.below LQ.out.ph.bel K1.out.lt)
                  have lkpq := KPq.out.lt
                  have hszq := LQ.out.sz
                  have cp : wr.cell? ⟨w.heap.size, 0, none⟩ = some (.slice h.A L.length h.c) := KPq.out.cell 0
                  have lbsq := KSq.out.lt
                  have cs0 : wr.cell? ⟨bs, 0, none⟩ = some (.slice hk.A0 (staF L f).f0.length hk.c0) := KSq.out.cell 0
                  have cs1 : wr.cell? ⟨bs, 1, none⟩ = some (.slice hk.A1 (staF L f).f1.length hk.c1) := KSq.out.cell 1
                  have cs2 : wr.cell? ⟨bs, 2, none⟩ = some (.slice hk.A2 (staF L f).f2.length hk.c2) := KSq.out.cell 2
                  have cs3 : wr.cell? ⟨bs, 3, none⟩ = some (.slice hk.A3 (staF L f).f3.length hk.c3) := KSq.out.cell 3
                  have cs4 : wr.cell? ⟨bs, 4, none⟩ = some (.slice hk.A4 (staF L f).f4.length hk.c4) := KSq.out.cell 4
                  have hhi2 : hi8 ≤ wr.heap.size := by omega
                  have Hdo := Lib.hid (fun (V' : World) (hb' : Below wr.heap.size wr V') => sdo_any h hk L f t V' wr.heap.size (PRq.out.up hb' (by omega) (by omega)) (OIq.out.rd.up hb' hhi2 hhi2) hb'.size HL.out ht HI.out.good HC.out HI.out.chan)
                  clear key
                  go_wp2_with fail
                  refine (Hdo.out wr (Below.refl _ _)).mono ?_
                  rintro e v ⟨hu, rfl, hv, hzv, ov⟩
                  have KSv := Lib.hid (KSq.out.below hv lbsq)
                  have cv0 : v.cell? ⟨bs, 0, none⟩ = some (.slice hk.A0 (staF L f).f0.length hk.c0) := KSv.out.cell 0
                  have fv0 : v.frozen? ⟨bs, 0, none⟩ = false := KSv.out.free 0
                  have cv1 : v.cell? ⟨bs, 1, none⟩ = some (.slice hk.A1 (staF L f).f1.length hk.c1) := KSv.out.cell 1
                  have fv1 : v.frozen? ⟨bs, 1, none⟩ = false := KSv.out.free 1
                  have cv2 : v.cell? ⟨bs, 2, none⟩ = some (.slice hk.A2 (staF L f).f2.length hk.c2) := KSv.out.cell 2
                  have fv2 : v.frozen? ⟨bs, 2, none⟩ = false := KSv.out.free 2
                  have cv3 : v.cell? ⟨bs, 3, none⟩ = some (.slice hk.A3 (staF L f).f3.length hk.c3) := KSv.out.cell 3
                  have fv3 : v.frozen? ⟨bs, 3, none⟩ = false := KSv.out.free 3
                  have cv4 : v.cell? ⟨bs, 4, none⟩ = some (.slice hk.A4 (staF L f).f4.length hk.c4) := KSv.out.cell 4
                  have fv4 : v.frozen? ⟨bs, 4, none⟩ = false := KSv.out.free 4
                  have lv : bs < v.heap.size := KSv.out.lt
                  have kF : Bk (((((v.setCell ⟨bs, 0, none⟩ (.slice hu.A0 (staF L (stepF L f t)).f0.length hu.c0)).setCell ⟨bs, 1, none⟩ (.slice hu.A1 (staF L (stepF L f t)).f1.length hu.c1)).setCell ⟨bs, 2, none⟩ (.slice hu.A2 (staF L (stepF L f t)).f2.length hu.c2)).setCell ⟨bs, 3, none⟩ (.slice hu.A3 (staF L (stepF L f t)).f3.length hu.c3)).setCell ⟨bs, 4, none⟩ (.slice hu.A4 (staF L (stepF L f t)).f4.length hu.c4)) bs 41 #[.slice hu.A0 (staF L (stepF L f t)).f0.length hu.c0, .slice hu.A1 (staF L (stepF L f t)).f1.length hu.c1, .slice hu.A2 (staF L (stepF L f t)).f2.length hu.c2, .slice hu.A3 (staF L (stepF L f t)).f3.length hu.c3, .slice hu.A4 (staF L (stepF L f t)).f4.length hu.c4] := by
                    have a0 := KSv.out
                    have a1 := a0.set 0 (.slice hu.A0 (staF L (stepF L f t)).f0.length hu.c0)
                    have a2 := a1.set 1 (.slice hu.A1 (staF L (stepF L f t)).f1.length hu.c1)
                    have a3 := a2.set 2 (.slice hu.A2 (staF L (stepF L f t)).f2.length hu.c2)
                    have a4 := a3.set 3 (.slice hu.A3 (staF L (stepF L f t)).f3.length hu.c3)
                    have a5 := a4.set 4 (.slice hu.A4 (staF L (stepF L f t)).f4.length hu.c4)
                    simpa using a5
                  have bF : Below w3.heap.size wr (((((v.setCell ⟨bs, 0, none⟩ (.slice hu.A0 (staF L (stepF L f t)).f0.length hu.c0)).setCell ⟨bs, 1, none⟩ (.slice hu.A1 (staF L (stepF L f t)).f1.length hu.c1)).setCell ⟨bs, 2, none⟩ (.slice hu.A2 (staF L (stepF L f t)).f2.length hu.c2)).setCell ⟨bs, 3, none⟩ (.slice hu.A3 (staF L (stepF L f t)).f3.length hu.c3)).setCell ⟨bs, 4, none⟩ (.slice hu.A4 (staF L (stepF L f t)).f4.length hu.c4)) := (((((hv.mono hszq).setCell (p := ⟨bs, 0, none⟩) (show w3.heap.size ≤ bs by omega) _).setCell (p := ⟨bs, 1, none⟩) (show w3.heap.size ≤ bs by omega) _).setCell (p := ⟨bs, 2, none⟩) (show w3.heap.size ≤ bs by omega) _).setCell (p := ⟨bs, 3, none⟩) (show w3.heap.size ≤ bs by omega) _).setCell (p := ⟨bs, 4, none⟩) (show w3.heap.size ≤ bs by omega) _
                  have nF : ∀ q, q ≠ bs → (((((v.setCell ⟨bs, 0, none⟩ (.slice hu.A0 (staF L (stepF L f t)).f0.length hu.c0)).setCell ⟨bs, 1, none⟩ (.slice hu.A1 (staF L (stepF L f t)).f1.length hu.c1)).setCell ⟨bs, 2, none⟩ (.slice hu.A2 (staF L (stepF L f t)).f2.length hu.c2)).setCell ⟨bs, 3, none⟩ (.slice hu.A3 (staF L (stepF L f t)).f3.length hu.c3)).setCell ⟨bs, 4, none⟩ (.slice hu.A4 (staF L (stepF L f t)).f4.length hu.c4)).heap[q]? = v.heap[q]? := fun q hq => (Below.heap_setCell _ _ _ q hq).trans ((Below.heap_setCell _ _ _ q hq).trans ((Below.heap_setCell _ _ _ q hq).trans ((Below.heap_setCell _ _ _ q hq).trans (Below.heap_setCell _ _ _ q hq))))
                  have zF : v.heap.size ≤ (((((v.setCell ⟨bs, 0, none⟩ (.slice hu.A0 (staF L (stepF L f t)).f0.length hu.c0)).setCell ⟨bs, 1, none⟩ (.slice hu.A1 (staF L (stepF L f t)).f1.length hu.c1)).setCell ⟨bs, 2, none⟩ (.slice hu.A2 (staF L (stepF L f t)).f2.length hu.c2)).setCell ⟨bs, 3, none⟩ (.slice hu.A3 (staF L (stepF L f t)).f3.length hu.c3)).setCell ⟨bs, 4, none⟩ (.slice hu.A4 (staF L (stepF L f t)).f4.length hu.c4)).heap.size := by simp
                  have Ov := Lib.hid ov.in_
                  have HF := Lib.hid kF
                  have BF := Lib.hid bF
                  have NF := Lib.hid nF
                  have ZF := Lib.hid zF
                  have hzv2 := hv.size
                  clear kF bF nF zF hv ov cp cs0 cs1 cs2 cs3 cs4
                  go_wp2
                  go_roundw
                  case rel => exact ⟨k + 1, stepF L f t, hu, wr.heap.size, v.heap.size, by omega, by go_num, HR2, LKe.out.kept BF.out (Nat.le_refl _), HF.out, Ov.out.keep (Nat.le_refl _) (Nat.le_refl _) (fun p (h1 : wr.heap.size ≤ p) _ => NF.out p (by omega)), hszq, ZF.out, Or.inr lbsq⟩
                  case measure => simp [intOf]; omega
            · have hke : k = x.length := by omega
              have hk1 : ¬ (k : Int) < (x.length : Int) := by omega
              have LKe := Lib.hid (LKr.out.congr (M' := fun h a => !(allG L (als.take (i + 1)) h a)) fun h a _ _ => by
                rw [hke, List.take_length, allG_next HX.out h a])
              clear hrun
              go_wp2
              go_roundw
              case rel => exact ⟨i + 1, by omega, by go_num, LKe.out⟩
              case measure => simp [intOf]; omega
        · have hie : i = als.length := by omega
          have hi4 : ¬ (i : Int) < (als.length : Int) := by omega
          have hEl := Lib.hid (show E.length = 3 by rw [← HE.out]; simp)
          have hEe : matR 3 2 (fun h a => !(allG L (als.take i) h a)) = E := by
            rw [hie, List.take_length, ← HALS.out, ← HE.out]
            rfl
          have HEE := Lib.hid hEe
          have hfb := Lib.hid (B1.out.trans (LK.out.ph.bel.mono (show w.heap.size ≤ w1.heap.size by omega)))
          have htop := LK.out.ph.top
          have OW := Lib.hid (show OwnVss wr w.heap.size wr.heap.size 62 4 (some ⟨g, 0, none⟩) (vsBss E) from by
            rw [← HEE.out]
            exact LK.out.ph.own.keep (by omega) htop fun _ _ _ => rfl)
          clear hEe hie
          go_wp2
          go_returns
          refine ⟨⟨some ⟨g, 0, none⟩, cap⟩, ?_, hfb.out, hfb.out.size, ⟨OW.out⟩⟩
          show _ = Ending.returned (.tuple #[.slice _ E.length cap, .bool true])
          rw [hEl.out]; rfl
end Go.Proofs.Ytiljakbjbiinkaa
