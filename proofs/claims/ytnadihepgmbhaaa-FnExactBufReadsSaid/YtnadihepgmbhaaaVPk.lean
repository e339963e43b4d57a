/-
  States with buffers as words: what the program's packedBuffered and packedSpread come to.
-/
import Derived.Test.YtnadihepgmbhaaaVUn
import Derived.Test.YtnadihepgmbhaaaPack
import Derived.Test.YtnadihepgmbhaaaBfOk
import Derived.Test.YtnadihepgmbhaaaVOk
namespace Go.Proofs.Ytnadihepgmbhaaa
open Go.RowKit Pl Go.BigFrame
set_option maxHeartbeats 1000000
set_option maxRecDepth 100000
set_option linter.unusedVariables false

/-- The codes of a record's buffers. -/
def cdsB (o : Buf) : Nat → List Nat := fun t => cdR (o.bs.getD t [])
def cdsV (o : Buf) : Nat → List Nat := fun t => cdV (t % 3) (o.bs.getD t [])
def part (b : Nat → List Nat) (k : Nat) : Nat → List Nat := fun t => if t < k then b t else []
theorem part_0 (b : Nat → List Nat) : part b 0 = fun _ => [] := by funext t; unfold part; rw [if_neg (by omega)]
theorem part_next (b : Nat → List Nat) (k : Nat) : updB (part b k) k (b k) = part b (k + 1) := by
  funext t
  unfold updB part
  by_cases e : t = k
  · subst e; rw [if_pos rfl, if_pos (by omega)]
  · rw [if_neg e]
    by_cases h : t < k
    · rw [if_pos h, if_pos (by omega)]
    · rw [if_neg h, if_neg (by omega)]
theorem getD_row {o : Buf} {k : Nat} {xs : List Int} (hx : o.bs[k]? = some xs) : o.bs.getD k [] = xs := by simp [List.getD, hx]
theorem getD_off {o : Buf} {k : Nat} (h : o.bs.length ≤ k) : o.bs.getD k [] = [] := by simp [List.getD, List.getElem?_eq_none h]
theorem cdsB_row {o : Buf} (hok : ∀ xs ∈ o.bs, lokB xs = true) {k : Nat} {xs : List Int} (hx : o.bs[k]? = some xs) : rowS (cdsB o k) = xs ∧ okS (cdsB o k) ∧ (cdsB o k).length ≤ 6 := by
  unfold cdsB
  rw [getD_row hx]
  obtain ⟨h1, h2, h3⟩ := lok_parts (hok xs (List.mem_of_getElem? hx))
  exact ⟨h3, h1, h2⟩
theorem cdsV_row {o : Buf} (hok : ∀ xs ∈ o.bs, vokB xs = true) {k : Nat} {xs : List Int} (hx : o.bs[k]? = some xs) : rowV (cdsV o k) = xs ∧ okS (cdsV o k) ∧ (cdsV o k).length ≤ 6 ∧ (∀ c ∈ cdsV o k, c / 4 = k % 3) ∧ cdsV o k = cdV (k % 3) xs := by
  unfold cdsV
  rw [getD_row hx]
  obtain ⟨h1, h2, h3, h4⟩ := vok_parts (p := k % 3) (by omega) (hok xs (List.mem_of_getElem? hx))
  exact ⟨h3, h1, h2, h4, rfl⟩
theorem cdsB_off {o : Buf} {t : Nat} (h : o.bs.length ≤ t) : cdsB o t = [] := by
  unfold cdsB; rw [getD_off h]; rfl
theorem cdsV_off {o : Buf} {t : Nat} (h : o.bs.length ≤ t) : cdsV o t = [] := by
  unfold cdsV; rw [getD_off h]; rfl
theorem cdsB_ok {o : Buf} (hok : ∀ xs ∈ o.bs, lokB xs = true) : okB9 (cdsB o) 6 := fun t _ => by
  rcases Nat.lt_or_ge t o.bs.length with h | h
  · obtain ⟨_, h1, h2⟩ := cdsB_row hok (List.getElem?_eq_getElem h)
    exact ⟨h1, h2⟩
  · rw [cdsB_off h]
    exact ⟨fun c hc => by simp at hc, by simp⟩
theorem cdsV_ok {o : Buf} (hok : ∀ xs ∈ o.bs, vokB xs = true) : okB9 (cdsV o) 6 := fun t _ => by
  rcases Nat.lt_or_ge t o.bs.length with h | h
  · obtain ⟨_, h1, h2, _⟩ := cdsV_row hok (List.getElem?_eq_getElem h)
    exact ⟨h1, h2⟩
  · rw [cdsV_off h]
    exact ⟨fun c hc => by simp at hc, by simp⟩
theorem part_all {b : Nat → List Nat} {n : Nat} (h : ∀ t, n ≤ t → b t = []) : part b n = b := by
  funext t
  unfold part
  split
  · rfl
  · exact (h t (by omega)).symm
theorem packbuf_any (h : PgH) (L : Pg) (k : BufH) (o : Buf) (w : World) (B : Nat) (hP : PgR w B h L) (hS : BufR w B k o) (hB : B ≤ w.heap.size) (P : StP L o.st) (hlen : o.bs.length = L.length) (hok : ∀ xs ∈ o.bs, lokB xs = true) :
    Calls Try.prog 89 #[PgV h L, BufV k o] w fun e w' => e = .returned (QV 1 (wdF L o.st) (cdsB o)) ∧ Below w.heap.size w w' := by
  have h32 := P.n3
  have bl : o.bs.length ≤ 9 := by omega
  clear hlen
  obtain ⟨W, hW⟩ : ∃ W, W = ((w.alloc (.cells #[.slice h.A L.length h.c] 36)).alloc (.cells #[.slice k.h.A0 o.st.f0.length k.h.c0, .slice k.h.A1 o.st.f1.length k.h.c1, .slice k.h.A2 o.st.f2.length k.h.c2, .slice k.h.A3 o.st.f3.length k.h.c3, .slice k.h.A4 o.st.f4.length k.h.c4, .slice k.k.A o.bs.length k.k.c] 59)).alloc (.cells Z12 TQ) := ⟨_, rfl⟩
  have bW : Below w.heap.size w W := by rw [hW]; go_grown
  have sW : W.heap.size = w.heap.size + 1 + 1 + 1 := by rw [hW]; simp
  have k0 : Bk W w.heap.size 36 #[.slice h.A L.length h.c] := by rw [hW]; exact ((Bk.new w _ _).alloc _).alloc _
  have k1 : Bk W (w.heap.size + 1) 59 #[.slice k.h.A0 o.st.f0.length k.h.c0, .slice k.h.A1 o.st.f1.length k.h.c1, .slice k.h.A2 o.st.f2.length k.h.c2, .slice k.h.A3 o.st.f3.length k.h.c3, .slice k.h.A4 o.st.f4.length k.h.c4, .slice k.k.A o.bs.length k.k.c] := by
    rw [hW]; have := (Bk.new (w.alloc (.cells #[.slice h.A L.length h.c] 36)) #[.slice k.h.A0 o.st.f0.length k.h.c0, .slice k.h.A1 o.st.f1.length k.h.c1, .slice k.h.A2 o.st.f2.length k.h.c2, .slice k.h.A3 o.st.f3.length k.h.c3, .slice k.h.A4 o.st.f4.length k.h.c4, .slice k.k.A o.bs.length k.k.c] 59).alloc (.cells Z12 TQ)
    rwa [World.size_alloc] at this
  have k2 : Bk W (w.heap.size + 1 + 1) TQ Z12 := by
    rw [hW]; have := Bk.new ((w.alloc (.cells #[.slice h.A L.length h.c] 36)).alloc (.cells #[.slice k.h.A0 o.st.f0.length k.h.c0, .slice k.h.A1 o.st.f1.length k.h.c1, .slice k.h.A2 o.st.f2.length k.h.c2, .slice k.h.A3 o.st.f3.length k.h.c3, .slice k.h.A4 o.st.f4.length k.h.c4, .slice k.k.A o.bs.length k.k.c] 59)) Z12 TQ
    rwa [World.size_alloc, World.size_alloc] at this
  have P0 := Lib.hid (hP.below bW hB)
  have Q0 := Lib.hid (hS.below bW hB)
  have K1 := Lib.hid k1
  have K2 := Lib.hid k2
  have BW := Lib.hid bW
  have HW := Lib.hid hW
  have sWa := Nat.le_of_eq sW
  have sWb := Nat.le_of_eq sW.symm
  clear hW bW sW k0 k1 k2 hP hS
  go_enter Try.func89, Try.ntmps89
  go_wp2_with fail
  rw [← HW.out]
  have key := packed_any h L k.h o.st W B P0.out Q0.out.s (by omega) P
  refine key.mono ?_
  clear key
  rintro e w1 ⟨rfl, hb1⟩
  obtain ⟨f, hf⟩ : ∃ f, wdF L o.st = f := ⟨_, rfl⟩
  rw [hf]
  have HFf := Lib.hid hf
  clear hf
  have z1 := hb1.size
  have B1 := Lib.hid (below_on BW.out hb1)
  have K11 := Lib.hid (K1.out.below hb1 K1.out.lt)
  have K21 := Lib.hid (K2.out.below hb1 K2.out.lt)
  have Q1 := Lib.hid (Q0.out.below hb1 (by omega))
  clear hb1
  have c5 : w1.cell? ⟨w.heap.size + 1, 5, none⟩ = some (.slice k.k.A o.bs.length k.k.c) := K11.out.cell 5
  have l5 := K11.out.lt
  obtain ⟨cd, hcd⟩ : ∃ cd, cdsB o = cd := ⟨_, rfl⟩
  obtain ⟨bs, hbs⟩ : ∃ bs, o.bs = bs := ⟨_, rfl⟩
  obtain ⟨A, c, hA, hc⟩ : ∃ A c, k.k.A = A ∧ k.k.c = c := ⟨_, _, rfl, rfl⟩
  rw [hA, hc] at c5
  rw [hbs] at c5
  have hbl : bs.length ≤ 9 := by rw [← hbs]; exact bl
  have V1 := Lib.hid (show Vss w1 B A (vsIss bs) from hA ▸ hbs ▸ Q1.out.b.v)
  have HOK : Hid (∀ (k : Nat) (xs : List Int), bs[k]? = some xs → rowS (cd k) = xs ∧ okS (cd k) ∧ (cd k).length ≤ 6) := Lib.hid (fun k xs hx => by rw [← hcd]; exact cdsB_row hok (by rw [hbs]; exact hx))
  have HAll : Hid (part cd bs.length = cd) := Lib.hid (by rw [← hcd, ← hbs]; exact part_all fun t ht => cdsB_off ht)
  have HCd := Lib.hid hcd
  clear hA hc hbs Q1 hcd hok
  go_wp2_with fail
  obtain ⟨wq, hwq⟩ : ∃ V, V = w1.alloc (.cells (mkQ 1 (enc WS f) 0 fun _ => 0) TQ) := ⟨_, rfl⟩
  have hwq' : wq = w1.alloc (.cells #[.int .i64 1, .int .u64 (enc WS f : Nat), .int .u64 0, .int .u64 0, .int .u64 0, .int .u64 0, .int .u64 0, .int .u64 0, .int .u64 0, .int .u64 0, .int .u64 0, .int .u64 0] TQ) := hwq
  rw [← hwq']
  have bq : Below w1.heap.size w1 wq := by rw [hwq]; exact (Below.refl _ _).alloc (Nat.le_refl _) _
  have kq : Bk wq w1.heap.size TQ (mkQ 1 (enc WS f) (mk9 (part cd 0)) fun i => bwC (part cd 0 i)) := by rw [hwq, part_0]; exact Bk.new _ _ _
  have K22 := K21.out.below bq K21.out.lt
  have start := Lib.hid (And.intro bq (And.intro kq K22))
  clear hwq hwq' bq kq K22 c5
  go_loopw [16] (fun i wr => ∃ m : Nat, m ≤ bs.length ∧ i = .int .i64 m ∧ Below w1.heap.size w1 wr ∧ Bk wr w1.heap.size TQ (mkQ 1 (enc WS f) (mk9 (part cd m)) fun i => bwC (part cd m i)) ∧ Bk wr (w.heap.size + 1 + 1) TQ Z12) (fun i _ => bs.length - (intOf i).toNat)
  case atStart => exact ⟨0, Nat.zero_le _, rfl, start.out⟩
  case round =>
    obtain ⟨m, hm, rfl, hb, hq, hr⟩ := hrel
    clear start
    have hz := hb.size
    by_cases hlt : m < bs.length
    · have hm9 : m < 9 := by omega
      obtain ⟨xs, hxs, -⟩ := drop_at hlt
      obtain ⟨ab, off, Ai, ci, rfl, hab, hx0, hrow⟩ := (V1.out.below hb (by omega)).at_ (vsIss_at hxs)
      rw [ints_length] at hx0
      obtain ⟨r1, r2, r3⟩ := HOK.out m xs hxs
      have habw : ab < wr.heap.size := by omega
      have HRow := Lib.hid hrow
      have HQ := Lib.hid hq
      have HRr := Lib.hid hr
      have HB1 := Lib.hid hb
      have lq := hq.lt
      have lr := hr.lt
      have hti : (m : Int) < (bs.length : Int) := by omega
      have HS := Lib.hid (fr_none wr)
      haveI hne := Nonempty.intro (Ws.mk _ (fr_none wr))
      have GK := Lib.hid (fun w' (h : In (Fr wr []) w') => (show Bk w' w1.heap.size TQ (mkQ 1 (enc WS f) (mk9 (part cd m)) fun i => bwC (part cd m i)) from by obtain ⟨x, rfl⟩ := h; exact HQ.out.below x.ok.below HQ.out.lt))
      have BWd := Lib.hid (fun (x : Ws (Fr wr [])) => bufword_any Ai (cd m) ci x.val B (by rw [r1]; exact hrow.below x.ok.below (by omega)) r2 (by omega) (by have := x.ok.below.size; omega))
      have WB := Lib.hid (fun v => withb_any 1 f (part cd m) m (cd m) v hm9)
      rw [part_next] at WB
      rw [r1] at BWd
      clear hxs hrow hq hr hb hlt
      go_wp2_with fail
      refine region_tail (C := In (Fr wr [])) 5 (by kernel_rfl) (In.mk HS.out.drew) ?_
      simp only [List.take_succ_cons, List.take_zero, List.drop_succ_cons, List.drop_zero]
      repeat (first | (refine qd_q rfl _ rfl w1.heap.size rfl TQ _ rfl GK.out ?_; simp only [Act.put, List.setIfInBounds_toArray, List.set_cons_succ, List.set_cons_zero]) | go_big_quiet_step ((first | (go_at_call 134; exact call_in (BWd.out _)) | (go_at_call 114; exact call_in (WB.out _)))))
      refine wpQuiet_nil ?_
      rintro _ ⟨y, rfl⟩
      have K5 := Lib.hid (HQ.out.below y.ok.below HQ.out.lt)
      have R5 := Lib.hid (HRr.out.below y.ok.below HRr.out.lt)
      have B5 := Lib.hid ((HB1.out).trans (y.ok.below.mono hz))
      go_wp2_with (refine st_q rfl _ _ rfl (w1.heap.size) rfl TQ _ (mkQ 1 (enc WS f) (mk9 (part cd (m + 1))) fun i => bwC (part cd (m + 1) i)) rfl K5.out rfl rfl (mkQ_one _ _ _ _) ?_; intro V3 s3)
      go_roundw
      case rel => exact ⟨m + 1, by omega, by go_num, B5.out.trans (s3.bel _ (Nat.le_refl _)), s3.bk, s3.other R5.out (by omega)⟩
      case measure => simp [intOf]; omega
    · have hml : m = bs.length := by omega
      subst hml
      have HQ : Hid (Bk wr w1.heap.size TQ (mkQ 1 (enc WS f) (mk9 cd) fun i => bwC (cd i))) := Lib.hid (by rw [HAll.out] at hq; exact hq)
      have HRr := Lib.hid hr
      have B3 := Lib.hid (B1.out.trans (hb.mono (by omega)))
      clear hq hr hb
      go_wp2_with (first | (refine ld_q rfl _ rfl w1.heap.size rfl TQ _ HQ.out rfl ?_) | (refine st_q rfl _ _ rfl (w.heap.size + 1 + 1) rfl TQ _ _ rfl HRr.out rfl rfl (mkQ_one _ _ _ _) ?_; intro V3 s3))
      exact bodyPost_ret (v := QV 1 f cd) (res_q rfl rfl s3.bk rfl) rfl ⟨by rw [HFf.out, HCd.out], B3.out.trans (s3.bel _ (by omega))⟩
theorem packspr_any (h : PgH) (L : Pg) (k : BufH) (o : Buf) (w : World) (B : Nat) (hP : PgR w B h L) (hS : BufR w B k o) (hB : B ≤ w.heap.size) (P : StP L o.st) (hlen : o.bs.length = L.length * 3) (hok : ∀ xs ∈ o.bs, vokB xs = true) :
    Calls Try.prog 78 #[PgV h L, BufV k o] w fun e w' => e = .returned (QV 3 (wdF L o.st) (cdsV o)) ∧ Below w.heap.size w w' := by
  have h32 := P.n3
  have bl : o.bs.length ≤ 9 := by omega
  clear hlen
  obtain ⟨W, hW⟩ : ∃ W, W = ((w.alloc (.cells #[.slice h.A L.length h.c] 36)).alloc (.cells #[.slice k.h.A0 o.st.f0.length k.h.c0, .slice k.h.A1 o.st.f1.length k.h.c1, .slice k.h.A2 o.st.f2.length k.h.c2, .slice k.h.A3 o.st.f3.length k.h.c3, .slice k.h.A4 o.st.f4.length k.h.c4, .slice k.k.A o.bs.length k.k.c] 31)).alloc (.cells Z12 TQ) := ⟨_, rfl⟩
  have bW : Below w.heap.size w W := by rw [hW]; go_grown
  have sW : W.heap.size = w.heap.size + 1 + 1 + 1 := by rw [hW]; simp
  have k0 : Bk W w.heap.size 36 #[.slice h.A L.length h.c] := by rw [hW]; exact ((Bk.new w _ _).alloc _).alloc _
  have k1 : Bk W (w.heap.size + 1) 31 #[.slice k.h.A0 o.st.f0.length k.h.c0, .slice k.h.A1 o.st.f1.length k.h.c1, .slice k.h.A2 o.st.f2.length k.h.c2, .slice k.h.A3 o.st.f3.length k.h.c3, .slice k.h.A4 o.st.f4.length k.h.c4, .slice k.k.A o.bs.length k.k.c] := by
    rw [hW]; have := (Bk.new (w.alloc (.cells #[.slice h.A L.length h.c] 36)) #[.slice k.h.A0 o.st.f0.length k.h.c0, .slice k.h.A1 o.st.f1.length k.h.c1, .slice k.h.A2 o.st.f2.length k.h.c2, .slice k.h.A3 o.st.f3.length k.h.c3, .slice k.h.A4 o.st.f4.length k.h.c4, .slice k.k.A o.bs.length k.k.c] 31).alloc (.cells Z12 TQ)
    rwa [World.size_alloc] at this
  have k2 : Bk W (w.heap.size + 1 + 1) TQ Z12 := by
    rw [hW]; have := Bk.new ((w.alloc (.cells #[.slice h.A L.length h.c] 36)).alloc (.cells #[.slice k.h.A0 o.st.f0.length k.h.c0, .slice k.h.A1 o.st.f1.length k.h.c1, .slice k.h.A2 o.st.f2.length k.h.c2, .slice k.h.A3 o.st.f3.length k.h.c3, .slice k.h.A4 o.st.f4.length k.h.c4, .slice k.k.A o.bs.length k.k.c] 31)) Z12 TQ
    rwa [World.size_alloc, World.size_alloc] at this
  have P0 := Lib.hid (hP.below bW hB)
  have Q0 := Lib.hid (hS.below bW hB)
  have K1 := Lib.hid k1
  have K2 := Lib.hid k2
  have BW := Lib.hid bW
  have HW := Lib.hid hW
  have sWa := Nat.le_of_eq sW
  have sWb := Nat.le_of_eq sW.symm
  clear hW bW sW k0 k1 k2 hP hS
  go_enter Try.func78, Try.ntmps78
  go_wp2_with fail
  rw [← HW.out]
  have key := packed_any h L k.h o.st W B P0.out Q0.out.s (by omega) P
  refine key.mono ?_
  clear key
  rintro e w1 ⟨rfl, hb1⟩
  obtain ⟨f, hf⟩ : ∃ f, wdF L o.st = f := ⟨_, rfl⟩
  rw [hf]
  have HFf := Lib.hid hf
  clear hf
  have z1 := hb1.size
  have B1 := Lib.hid (below_on BW.out hb1)
  have K11 := Lib.hid (K1.out.below hb1 K1.out.lt)
  have K21 := Lib.hid (K2.out.below hb1 K2.out.lt)
  have Q1 := Lib.hid (Q0.out.below hb1 (by omega))
  clear hb1
  have c5 : w1.cell? ⟨w.heap.size + 1, 5, none⟩ = some (.slice k.k.A o.bs.length k.k.c) := K11.out.cell 5
  have l5 := K11.out.lt
  obtain ⟨cd, hcd⟩ : ∃ cd, cdsV o = cd := ⟨_, rfl⟩
  obtain ⟨bs, hbs⟩ : ∃ bs, o.bs = bs := ⟨_, rfl⟩
  obtain ⟨A, c, hA, hc⟩ : ∃ A c, k.k.A = A ∧ k.k.c = c := ⟨_, _, rfl, rfl⟩
  rw [hA, hc] at c5
  rw [hbs] at c5
  have hbl : bs.length ≤ 9 := by rw [← hbs]; exact bl
  have V1 := Lib.hid (show Vss w1 B A (vsIss bs) from hA ▸ hbs ▸ Q1.out.b.v)
  have HOK : Hid (∀ (k : Nat) (xs : List Int), bs[k]? = some xs → vokB xs = true ∧ cd k = cdV (k % 3) xs) := Lib.hid (fun k xs hx => by rw [← hcd]; exact ⟨hok xs (List.mem_of_getElem? (by rw [hbs]; exact hx)), (cdsV_row hok (by rw [hbs]; exact hx)).2.2.2.2⟩)
  have HAll : Hid (part cd bs.length = cd) := Lib.hid (by rw [← hcd, ← hbs]; exact part_all fun t ht => cdsV_off ht)
  have HCd := Lib.hid hcd
  clear hA hc hbs Q1 hcd hok
  go_wp2_with fail
  obtain ⟨wq, hwq⟩ : ∃ V, V = w1.alloc (.cells (mkQ 3 (enc WS f) 0 fun _ => 0) TQ) := ⟨_, rfl⟩
  have hwq' : wq = w1.alloc (.cells #[.int .i64 3, .int .u64 (enc WS f : Nat), .int .u64 0, .int .u64 0, .int .u64 0, .int .u64 0, .int .u64 0, .int .u64 0, .int .u64 0, .int .u64 0, .int .u64 0, .int .u64 0] TQ) := hwq
  rw [← hwq']
  have bq : Below w1.heap.size w1 wq := by rw [hwq]; exact (Below.refl _ _).alloc (Nat.le_refl _) _
  have kq : Bk wq w1.heap.size TQ (mkQ 3 (enc WS f) (mk9 (part cd 0)) fun i => bwC (part cd 0 i)) := by rw [hwq, part_0]; exact Bk.new _ _ _
  have K22 := K21.out.below bq K21.out.lt
  have start := Lib.hid (And.intro bq (And.intro kq K22))
  clear hwq hwq' bq kq K22 c5
  go_loopw [16] (fun i wr => ∃ m : Nat, m ≤ bs.length ∧ i = .int .i64 m ∧ Below w1.heap.size w1 wr ∧ Bk wr w1.heap.size TQ (mkQ 3 (enc WS f) (mk9 (part cd m)) fun i => bwC (part cd m i)) ∧ Bk wr (w.heap.size + 1 + 1) TQ Z12) (fun i _ => bs.length - (intOf i).toNat)
  case atStart => exact ⟨0, Nat.zero_le _, rfl, start.out⟩
  case round =>
    obtain ⟨m, hm, rfl, hb, hq, hr⟩ := hrel
    clear start
    have hz := hb.size
    by_cases hlt : m < bs.length
    · have hm9 : m < 9 := by omega
      obtain ⟨xs, hxs, -⟩ := drop_at hlt
      obtain ⟨ab, off, Ai, ci, rfl, hab, hx0, hrow⟩ := (V1.out.below hb (by omega)).at_ (vsIss_at hxs)
      rw [ints_length] at hx0
      obtain ⟨r1, r2⟩ := HOK.out m xs hxs
      have habw : ab < wr.heap.size := by omega
      have HRow := Lib.hid hrow
      have HQ := Lib.hid hq
      have HRr := Lib.hid hr
      have HB1 := Lib.hid hb
      have lq := hq.lt
      have lr := hr.lt
      have hti : (m : Int) < (bs.length : Int) := by omega
      obtain ⟨r3, hr3⟩ : ∃ r3, m % 3 = r3 := ⟨_, rfl⟩
      have hr33 : r3 < 3 := by omega
      have hrm : Int.tmod (m : Int) 3 = (r3 : Int) := by rw [Int.tmod_eq_emod_of_nonneg (by omega)]; omega
      rw [hr3] at r2
      clear hr3
      have HS := Lib.hid (fr_none wr)
      haveI hne := Nonempty.intro (Ws.mk _ (fr_none wr))
      have GK := Lib.hid (fun w' (h : In (Fr wr []) w') => (show Bk w' w1.heap.size TQ (mkQ 3 (enc WS f) (mk9 (part cd m)) fun i => bwC (part cd m i)) from by obtain ⟨x, rfl⟩ := h; exact HQ.out.below x.ok.below HQ.out.lt))
      have BWd := Lib.hid (fun (x : Ws (Fr wr [])) => placeword_any Ai r3 xs ci x.val B (hrow.below x.ok.below (by omega)) hr33 r1)
      have WB := Lib.hid (fun v => withb_any 3 f (part cd m) m (cd m) v hm9)
      rw [part_next] at WB
      rw [← r2] at BWd
      clear r2
      clear hxs hrow hq hr hb hlt
      go_wp2_with fail
      refine region_tail (C := In (Fr wr [])) 7 (by kernel_rfl) (In.mk HS.out.drew) ?_
      simp only [List.take_succ_cons, List.take_zero, List.drop_succ_cons, List.drop_zero]
      repeat (first | (refine qd_q rfl _ rfl w1.heap.size rfl TQ _ rfl GK.out ?_; simp only [Act.put, List.setIfInBounds_toArray, List.set_cons_succ, List.set_cons_zero]) | go_big_quiet_step ((first | (go_at_call 115; exact call_in (BWd.out _)) | (go_at_call 114; exact call_in (WB.out _)))))
      refine wpQuiet_nil ?_
      rintro _ ⟨y, rfl⟩
      have K5 := Lib.hid (HQ.out.below y.ok.below HQ.out.lt)
      have R5 := Lib.hid (HRr.out.below y.ok.below HRr.out.lt)
      have B5 := Lib.hid ((HB1.out).trans (y.ok.below.mono hz))
      go_wp2_with (refine st_q rfl _ _ rfl (w1.heap.size) rfl TQ _ (mkQ 3 (enc WS f) (mk9 (part cd (m + 1))) fun i => bwC (part cd (m + 1) i)) rfl K5.out rfl rfl (mkQ_one _ _ _ _) ?_; intro V3 s3)
      go_roundw
      case rel => exact ⟨m + 1, by omega, by go_num, B5.out.trans (s3.bel _ (Nat.le_refl _)), s3.bk, s3.other R5.out (by omega)⟩
      case measure => simp [intOf]; omega
    · have hml : m = bs.length := by omega
      subst hml
      have HQ : Hid (Bk wr w1.heap.size TQ (mkQ 3 (enc WS f) (mk9 cd) fun i => bwC (cd i))) := Lib.hid (by rw [HAll.out] at hq; exact hq)
      have HRr := Lib.hid hr
      have B3 := Lib.hid (B1.out.trans (hb.mono (by omega)))
      clear hq hr hb
      go_wp2_with (first | (refine ld_q rfl _ rfl w1.heap.size rfl TQ _ HQ.out rfl ?_) | (refine st_q rfl _ _ rfl (w.heap.size + 1 + 1) rfl TQ _ _ rfl HRr.out rfl rfl (mkQ_one _ _ _ _) ?_; intro V3 s3))
      exact bodyPost_ret (v := QV 3 f cd) (res_q rfl rfl s3.bk rfl) rfl ⟨by rw [HFf.out, HCd.out], B3.out.trans (s3.bel _ (by omega))⟩
end Go.Proofs.Ytnadihepgmbhaaa
