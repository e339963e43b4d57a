/-
  States with buffers as words: what the program's beginQueued, packedBuffered and unpackedBuffered come to.
-/
import Derived.Test.YtpcdcgcbhhnhhaaBfW
import Derived.Test.YtpcdcgcbhhnhhaaBfOk
import Derived.Test.YtpcdcgcbhhnhhaaBegin
import Derived.Test.YtpcdcgcbhhnhhaaPack
namespace Go.Proofs.Ytpcdcgcbhhnhhaa
open Go.RowKit Pl Go.BigFrame
set_option maxHeartbeats 4000000
set_option maxRecDepth 100000
set_option linter.unusedVariables false

/-- Rows of the call's own, put one by one below headers that were made ahead. -/
structure RwsO (w wr : World) (g n : Nat) (F : Nat → List Int) (k : Nat) : Prop where
  bel : Below w.heap.size w wr
  hd : ∃ (cs : Array Value) (D : Nat → Option Addr) (C : Nat → Nat), Bk wr g 26 cs ∧ cs.size = n ∧ (∀ j, j < k → cs[j]? = some (.slice (D j) (F j).length (C j)) ∧ OwnVs wr (g + 1) wr.heap.size 3 (D j) (ints (F j))) ∧ ∀ i j, i < j → j < k → 0 < (F i).length → 0 < (F j).length → D i ≠ D j
theorem own_where {w : World} {lo hi : Nat} {t : TypeId} {A : Option Addr} {xs : List Int} (h : OwnVs w lo hi t A (ints xs)) (hn : 0 < xs.length) : ∃ g, A = some ⟨g, 0, none⟩ ∧ lo ≤ g ∧ g < hi := by
  obtain ⟨g, cs, hA, h1, h2, _⟩ := h (by rw [ints_length]; exact hn)
  exact ⟨g, hA, h1, h2⟩
theorem RwsO.next {w wr w1 : World} {g n k c : Nat} {F : Nat → List Int} {A : Option Addr} (h : RwsO w wr g n F k) (hk : k < n) (hg : w.heap.size ≤ g) (hb : Below wr.heap.size wr w1) (ho : OwnVs w1 wr.heap.size w1.heap.size 3 A (ints (F k))) :
    RwsO w (w1.setCell ⟨g, k, none⟩ (.slice A (F k).length c)) g n F (k + 1) := by
  obtain ⟨h0, cs, D, C, hbk, hsz, hc, hd⟩ := h
  have hlt := hbk.lt
  have hz := hb.size
  have hset : ∀ i, i ≠ g → (w1.setCell ⟨g, k, none⟩ (.slice A (F k).length c)).heap[i]? = w1.heap[i]? := fun i hi => Below.heap_setCell w1 ⟨g, k, none⟩ _ i hi
  have hs2 : (w1.setCell ⟨g, k, none⟩ (.slice A (F k).length c)).heap.size = w1.heap.size := World.size_setCell ..
  refine ⟨(below_on h0 hb).setCell hg _, _, fun i => if i = k then A else D i, fun i => if i = k then c else C i, (hbk.below hb hlt).set _ _, by simpa using hsz, ?_, ?_⟩
  · intro j hj
    by_cases e : j = k
    · subst e
      simp only [if_true]
      refine ⟨by simp [hsz, hk], ?_⟩
      rw [hs2]
      exact ho.keep (by omega) (Nat.le_refl _) fun i h1 h2 => hset i (by omega)
    · simp only [if_neg e]
      obtain ⟨g0, g1⟩ := hc j (by omega)
      refine ⟨by rw [Array.getElem?_setIfInBounds_ne (by omega)]; exact g0, ?_⟩
      rw [hs2]
      exact g1.keep (Nat.le_refl _) hz fun i h1 h2 => (hset i (by omega)).trans (hb.block i h2)
  · intro i j hij hj hi0 hj0
    by_cases e : j = k
    · subst e
      have e' : i ≠ j := by omega
      simp only [if_true, if_neg e']
      obtain ⟨ga, ea, _, h2⟩ := own_where (hc i (by omega)).2 hi0
      obtain ⟨gb, eb, h3, _⟩ := own_where ho hj0
      rw [ea, eb]
      intro e
      injection e with e
      injection e with e
      omega
    · have e' : i ≠ k := by omega
      simp only [if_neg e, if_neg e']
      exact hd i j hij (by omega) hi0 hj0
theorem RwsO.done {w wr : World} {g n lo : Nat} {F : Nat → List Int} (h : RwsO w wr g n F n) (hl : lo ≤ g) (c : Nat) : IssO wr lo wr.heap.size ⟨some ⟨g, 0, none⟩, c⟩ ((List.range n).map F) := ⟨fun _ => by
  obtain ⟨_, cs, D, C, hbk, _, hc, hd⟩ := h
  have at_ : ∀ {i : Nat} {vs : List Value}, (vsIss ((List.range n).map F))[i]? = some vs → i < n ∧ vs = ints (F i) := by
    intro i vs hi
    obtain ⟨xs, hx, rfl⟩ := vsIss_inv hi
    have hl := (List.getElem?_eq_some_iff.1 hx).1
    rw [List.length_map, List.length_range] at hl
    rw [List.getElem?_map, List.getElem?_range hl] at hx
    simp at hx
    exact ⟨hl, by rw [hx]⟩
  refine ⟨g, cs, D, C, rfl, hl, hbk.lt, hbk, ?_, ?_⟩
  · intro i vs hi
    obtain ⟨h1, rfl⟩ := at_ hi
    obtain ⟨g0, g1⟩ := hc i h1
    rw [ints_length]
    exact ⟨g0, g1.keep (by omega) (Nat.le_refl _) fun _ _ _ => rfl⟩
  · intro i j vs us hij hi hj h0 h1
    obtain ⟨_, rfl⟩ := at_ hi
    obtain ⟨h2, rfl⟩ := at_ hj
    rw [ints_length] at h0 h1
    exact hd i j hij h2 h0 h1⟩

/-- A state with buffers as words. -/
abbrev QV (f : Nat → Nat) (b : Nat → List Nat) : Value := .agg #[.int .u64 (enc WS f : Nat), .int .u64 (bwC (b 0) : Nat), .int .u64 (bwC (b 1) : Nat), .int .u64 (bwC (b 2) : Nat)]
/-- The record of words. -/
def bufOf (L : Pg) (f : Nat → Nat) (b : Nat → List Nat) : Buf := ⟨staF L f, (List.range L.length).map fun t => rowS (b t)⟩
/-- Buffers with at most m stores. -/
def okB7 (b : Nat → List Nat) (m : Nat) : Prop := ∀ t, t < 3 → okS (b t) ∧ (b t).length ≤ m

theorem begq_any (h : PgH) (L : Pg) (w : World) (B : Nat) (hR : PgR w B h L) (hB : B ≤ w.heap.size) (hL : progB L = true) :
    Calls Try.prog 52 #[PgV h L] w fun e w' => e = .returned (QV (keptF L zeroF L.length) (fun _ => [])) ∧ Below w.heap.size w w' := by
  obtain ⟨W, hW⟩ : ∃ W, W = (w.alloc (.cells #[.slice h.A L.length h.c] 36)).alloc (.cells #[.int .u64 0, .int .u64 0, .int .u64 0, .int .u64 0] 74) := ⟨_, rfl⟩
  have bW : Below w.heap.size w W := by rw [hW]; go_grown
  have k1 : Bk W (w.heap.size + 1) 74 #[.int .u64 0, .int .u64 0, .int .u64 0, .int .u64 0] := by
    rw [hW]; have := Bk.new (w.alloc (.cells #[.slice h.A L.length h.c] 36)) #[.int .u64 0, .int .u64 0, .int .u64 0, .int .u64 0] 74
    rwa [World.size_alloc] at this
  have P := Lib.hid (hR.below bW hB)
  have K1 := Lib.hid k1
  have BW := Lib.hid bW
  have hz := bW.size
  have HW := Lib.hid hW
  clear hW bW hR k1
  go_enter Try.func52, Try.ntmps52
  go_wp2_with fail
  rw [← HW.out]
  have key := begword_any h L W B P.out (by omega) hL
  generalize hE : (enc WS (keptF L zeroF L.length) : Nat) = E at key
  have HE := Lib.hid hE
  refine key.mono ?_
  clear key hE
  rintro e w1 ⟨rfl, hb⟩
  have B1 := Lib.hid (below_on BW.out hb)
  have K2 := Lib.hid (K1.out.below hb K1.out.lt)
  clear hb
  have fr0 := K2.out.free 0
  obtain ⟨zr0, xr0⟩ := K2.out.some_ (i := 0) (by decide)
  have fr1 := K2.out.free 1
  obtain ⟨zr1, xr1⟩ := K2.out.some_ (i := 1) (by decide)
  have fr2 := K2.out.free 2
  obtain ⟨zr2, xr2⟩ := K2.out.some_ (i := 2) (by decide)
  have fr3 := K2.out.free 3
  obtain ⟨zr3, xr3⟩ := K2.out.some_ (i := 3) (by decide)
  obtain ⟨F, hF⟩ : ∃ F, F = ((((w1.setCell ⟨w.heap.size + 1, 0, none⟩ (.int .u64 (E : Nat))).setCell ⟨w.heap.size + 1, 1, none⟩ (.int .u64 0)).setCell ⟨w.heap.size + 1, 2, none⟩ (.int .u64 0)).setCell ⟨w.heap.size + 1, 3, none⟩ (.int .u64 0)) := ⟨_, rfl⟩
  have kF : Bk F (w.heap.size + 1) 74 #[.int .u64 (E : Nat), .int .u64 0, .int .u64 0, .int .u64 0] := by
    rw [hF]; have a0 := K2.out
    have a1 := a0.set 0 (.int .u64 (E : Nat))
    have a2 := a1.set 1 (.int .u64 0)
    have a3 := a2.set 2 (.int .u64 0)
    have a4 := a3.set 3 (.int .u64 0)
    simpa using a4
  have bF : ∀ B, B ≤ w.heap.size + 1 → Below B w1 F := fun B hB => by rw [hF]; exact (((((Below.refl _ _).setCell (by show B ≤ w.heap.size + 1; omega) _).setCell (by show B ≤ w.heap.size + 1; omega) _).setCell (by show B ≤ w.heap.size + 1; omega) _).setCell (by show B ≤ w.heap.size + 1; omega) _)
  have nF : ∀ q, q ≠ w.heap.size + 1 → F.heap[q]? = w1.heap[q]? := fun q hq => by rw [hF]; exact (Below.heap_setCell _ _ _ q (by show q ≠ w.heap.size + 1; omega)).trans ((Below.heap_setCell _ _ _ q (by show q ≠ w.heap.size + 1; omega)).trans ((Below.heap_setCell _ _ _ q (by show q ≠ w.heap.size + 1; omega)).trans (Below.heap_setCell _ _ _ q (by show q ≠ w.heap.size + 1; omega))))
  have sF : F.heap.size = w1.heap.size := by rw [hF]; simp
  have cF0 := kF.cell 0
  have cF1 := kF.cell 1
  have cF2 := kF.cell 2
  have cF3 := kF.cell 3
  simp only [List.getElem?_toArray, List.getElem?_cons_zero, List.getElem?_cons_succ] at cF0 cF1 cF2 cF3
  have HF := Lib.hid hF
  have KF := Lib.hid kF
  clear hF kF
  have CF0 := Lib.hid cF0
  clear cF0
  have CF1 := Lib.hid cF1
  clear cF1
  have CF2 := Lib.hid cF2
  clear cF2
  have CF3 := Lib.hid cF3
  clear cF3
  have NF := Lib.hid nF
  have BF := Lib.hid bF
  have sFa := Nat.le_of_eq sF
  have sFb := Nat.le_of_eq sF.symm
  clear nF bF sF
  go_wp2
  rw [← HF.out]
  have cF0 := CF0.out
  have cF1 := CF1.out
  have cF2 := CF2.out
  have cF3 := CF3.out
  refine bodyPost_ret (v := .agg #[.int .u64 (E : Nat), .int .u64 0, .int .u64 0, .int .u64 0]) (by simp [results, Try.results52, cF0, cF1, cF2, cF3, go_sem]) rfl ?_
  exact ⟨by rw [QV, HE.out]; rfl, B1.out.trans (BF.out _ (by omega))⟩

/-- An answer that is a state with buffers of the call's own. -/
def AnsB (w : World) (o : Buf) (e : Ending) (w' : World) : Prop := ∃ k, e = .returned (BufV k o) ∧ Below w.heap.size w w' ∧ w.heap.size < w'.heap.size ∧ BufO w' w.heap.size w'.heap.size k o
theorem unpbuf_any (h : PgH) (L : Pg) (f : Nat → Nat) (b : Nat → List Nat) (w : World) (hL : progB L = true) (hf : okF WS f) (hb : okB7 b 7) :
    Calls Try.prog 51 #[PgV h L, QV f b] w (AnsB w (bufOf L f b)) := by
  obtain ⟨h31, h32⟩ := prog_len hL
  obtain ⟨W, hW⟩ : ∃ W, W = ((w.alloc (.cells #[.slice h.A L.length h.c] 36)).alloc (.cells #[.int .u64 (enc WS f : Nat), .int .u64 (bwC (b 0) : Nat), .int .u64 (bwC (b 1) : Nat), .int .u64 (bwC (b 2) : Nat)] 74)).alloc (.cells #[.slice none 0 0, .slice none 0 0, .slice none 0 0, .slice none 0 0, .slice none 0 0, .slice none 0 0] 31) := ⟨_, rfl⟩
  have bW : Below w.heap.size w W := by rw [hW]; go_grown
  have sW : W.heap.size = w.heap.size + 1 + 1 + 1 := by rw [hW]; simp
  have k0 : Bk W w.heap.size 36 #[.slice h.A L.length h.c] := by rw [hW]; exact ((Bk.new w _ _).alloc _).alloc _
  have k1 : Bk W (w.heap.size + 1) 74 #[.int .u64 (enc WS f : Nat), .int .u64 (bwC (b 0) : Nat), .int .u64 (bwC (b 1) : Nat), .int .u64 (bwC (b 2) : Nat)] := by
    rw [hW]; have := (Bk.new (w.alloc (.cells #[.slice h.A L.length h.c] 36)) #[.int .u64 (enc WS f : Nat), .int .u64 (bwC (b 0) : Nat), .int .u64 (bwC (b 1) : Nat), .int .u64 (bwC (b 2) : Nat)] 74).alloc (.cells #[.slice none 0 0, .slice none 0 0, .slice none 0 0, .slice none 0 0, .slice none 0 0, .slice none 0 0] 31)
    rwa [World.size_alloc] at this
  have k2 : Bk W (w.heap.size + 1 + 1) 31 #[.slice none 0 0, .slice none 0 0, .slice none 0 0, .slice none 0 0, .slice none 0 0, .slice none 0 0] := by
    rw [hW]; have := Bk.new ((w.alloc (.cells #[.slice h.A L.length h.c] 36)).alloc (.cells #[.int .u64 (enc WS f : Nat), .int .u64 (bwC (b 0) : Nat), .int .u64 (bwC (b 1) : Nat), .int .u64 (bwC (b 2) : Nat)] 74)) #[.slice none 0 0, .slice none 0 0, .slice none 0 0, .slice none 0 0, .slice none 0 0, .slice none 0 0] 31
    rwa [World.size_alloc, World.size_alloc] at this
  obtain ⟨i0, hi, hz0, hz1, hz2⟩ := info_parts info_il
  have hmk := make_any Try.underlying29 hi hz0 L.length (by rw [hz2]; omega) (by omega)
  rw [hz1, Nat.mul_one] at hmk
  have start := Lib.hid (show RwsO w (W.alloc (.cells (madeCells #[.slice none 0 0] L.length) 26)) (w.heap.size + 1 + 1 + 1) L.length (fun t => rowS (b t)) 0 from by
    rw [← sW]; exact ⟨bW.alloc (by omega) _, _, fun _ => none, fun _ => 0, Bk.new _ _ _, by simp [size_madeCells], fun j hj => absurd hj (by omega), fun i j _ hj => absurd hj (by omega)⟩)
  have st0 := Lib.hid (show Bk (W.alloc (.cells (madeCells #[.slice none 0 0] L.length) 26)) w.heap.size 36 #[.slice h.A L.length h.c] from k0.alloc _)
  have st1 := Lib.hid (show Bk (W.alloc (.cells (madeCells #[.slice none 0 0] L.length) 26)) (w.heap.size + 1) 74 #[.int .u64 (enc WS f : Nat), .int .u64 (bwC (b 0) : Nat), .int .u64 (bwC (b 1) : Nat), .int .u64 (bwC (b 2) : Nat)] from k1.alloc _)
  have st2 := Lib.hid (show Bk (W.alloc (.cells (madeCells #[.slice none 0 0] L.length) 26)) (w.heap.size + 1 + 1) 31 #[.slice none 0 0, .slice none 0 0, .slice none 0 0, .slice none 0 0, .slice none 0 0, .slice none 0 0] from k2.alloc _)
  have stz : Hid (w.heap.size + 1 + 1 + 1 < (W.alloc (.cells (madeCells #[.slice none 0 0] L.length) 26)).heap.size) := Lib.hid (by simp [sW])
  have HF := Lib.hid hf
  have Hb := Lib.hid hb
  have HW := Lib.hid hW
  have sWa := Nat.le_of_eq sW
  have sWb := Nat.le_of_eq sW.symm
  have cp := k0.cell 0
  have cpl := k0.lt
  have cp' : W.cell? ⟨w.heap.size, 0, none⟩ = some (.slice h.A L.length h.c) := cp
  clear hz0 hz1 hz2 hi hW bW sW k0 k1 k2 hf hb cp
  go_enter Try.func51, Try.ntmps51
  go_wp2_with fail
  rw [← HW.out]
  go_wp2_with fail
  clear hmk cp' cpl
  go_loopw [13] (fun i wr => ∃ k : Nat, k ≤ L.length ∧ i = .int .i64 k ∧ RwsO w wr (w.heap.size + 1 + 1 + 1) L.length (fun t => rowS (b t)) k ∧ Bk wr w.heap.size 36 #[.slice h.A L.length h.c] ∧ Bk wr (w.heap.size + 1) 74 #[.int .u64 (enc WS f : Nat), .int .u64 (bwC (b 0) : Nat), .int .u64 (bwC (b 1) : Nat), .int .u64 (bwC (b 2) : Nat)] ∧ Bk wr (w.heap.size + 1 + 1) 31 #[.slice none 0 0, .slice none 0 0, .slice none 0 0, .slice none 0 0, .slice none 0 0, .slice none 0 0]) (fun i _ => L.length - (intOf i).toNat)
  case atStart => exact ⟨0, Nat.zero_le _, rfl, start.out, st0.out, st1.out, st2.out⟩
  case round =>
    obtain ⟨k, hk, rfl, hrw, hp, hq, hr⟩ := hrel
    clear start st0 st1 st2 stz
    have hz := hrw.bel.size
    by_cases hlt : k < L.length
    · have hk3 : k < 3 := by omega
      obtain ⟨hbk1, hbk2⟩ := Hb.out k hk3
      have ck : wr.cell? ⟨w.heap.size + 1, 1 + k, none⟩ = some (.int .u64 (bwC (b k) : Nat)) := (hq.cell (1 + k)).trans (by rcases (show k = 0 ∨ k = 1 ∨ k = 2 by omega) with rfl | rfl | rfl <;> rfl)
      have lq := hq.lt
      have lp := hp.lt
      have lr := hr.lt
      obtain ⟨cs, D, C, hbk, hsz, hcs, hds⟩ := id hrw.hd
      obtain ⟨v0, e0⟩ := hbk.some_ (i := k) (by omega)
      have q0 := hbk.free k
      have lg := hbk.lt
      have BL := Lib.hid (fun v => buflist_any (b k) v hbk1 hbk2)
      have HRw := Lib.hid hrw
      have HP := Lib.hid hp
      have HQ := Lib.hid hq
      have HRr := Lib.hid hr
      have hti : (k : Int) < (L.length : Int) := by omega
      have hl2 : Hid ((rowS (b k)).length = 2 * (b k).length) := Lib.hid (rowS_length _)
      clear hbk hcs hds hrw hp hq hr hbk1 hbk2
      generalize hW2 : bwC (b k) = W2 at ck
      rw [hW2] at BL
      clear hW2
      go_wp2_with fail
      refine (BL.out _).mono ?_
      rintro e w1 ⟨A, c, rfl, hb1, own⟩
      have z1 := hb1.size
      obtain ⟨hc1, hf1⟩ := bcell hb1
      have HN := Lib.hid (HRw.out.next hlt (by omega) hb1 own (c := c))
      have kset : ∀ {g : Nat} {t : TypeId} {cs : Array Value}, Bk wr g t cs → g ≠ w.heap.size + 1 + 1 + 1 → Bk (w1.setCell ⟨w.heap.size + 1 + 1 + 1, k, none⟩ (.slice A (rowS (b k)).length c)) g t cs := fun hg hne => (hg.below hb1 hg.lt).far (p := ⟨w.heap.size + 1 + 1 + 1, k, none⟩) hne _
      have HP1 := Lib.hid (kset HP.out (by omega))
      have HQ1 := Lib.hid (kset HQ.out (by omega))
      have HR1 := Lib.hid (kset HRr.out (by omega))
      rw [hl2.out] at HN HP1 HQ1 HR1
      clear hb1 own kset ck
      go_wp2
      go_roundw
      case rel => exact ⟨k + 1, by omega, by go_num, HN.out, HP1.out, HQ1.out, HR1.out⟩
      case measure => simp [intOf]; omega
    · have hkl : k = L.length := by omega
      subst hkl
      have cP : wr.cell? ⟨w.heap.size, 0, none⟩ = some (.slice h.A L.length h.c) := hp.cell 0
      have cQ : wr.cell? ⟨w.heap.size + 1, 0, none⟩ = some (.int .u64 (enc WS f : Nat)) := hq.cell 0
      have lq := hq.lt
      have lp := hp.lt
      have HRw := Lib.hid hrw
      have HRr := Lib.hid hr
      clear hp hq hr hrw
      go_wp2_with fail
      refine (unpacked_any h L f wr hL HF.out).mono ?_
      rintro e w1 ⟨hs, rfl, hb1, hl1, own⟩
      have B1 := Lib.hid (below_on HRw.out.bel hb1)
      have K2 := Lib.hid (HRr.out.below hb1 HRr.out.lt)
      have Own := Lib.hid own
      have IO := Lib.hid ((HRw.out.done (lo := w.heap.size + 1 + 1 + 1) (Nat.le_refl _) L.length).below hb1 (Nat.le_refl _))
      have lg : w.heap.size + 1 + 1 + 1 < wr.heap.size := by obtain ⟨cs, D, C, hbk, _⟩ := HRw.out.hd; exact hbk.lt
      have z1 := hb1.size
      clear hb1 own cP cQ
      have fr0 := K2.out.free 0
      obtain ⟨zr0, xr0⟩ := K2.out.some_ (i := 0) (by decide)
      have fr1 := K2.out.free 1
      obtain ⟨zr1, xr1⟩ := K2.out.some_ (i := 1) (by decide)
      have fr2 := K2.out.free 2
      obtain ⟨zr2, xr2⟩ := K2.out.some_ (i := 2) (by decide)
      have fr3 := K2.out.free 3
      obtain ⟨zr3, xr3⟩ := K2.out.some_ (i := 3) (by decide)
      have fr4 := K2.out.free 4
      obtain ⟨zr4, xr4⟩ := K2.out.some_ (i := 4) (by decide)
      have fr5 := K2.out.free 5
      obtain ⟨zr5, xr5⟩ := K2.out.some_ (i := 5) (by decide)
      obtain ⟨F, hF⟩ : ∃ F, F = ((((((w1.setCell ⟨w.heap.size + 1 + 1, 0, none⟩ (.slice hs.A0 (staF L f).f0.length hs.c0)).setCell ⟨w.heap.size + 1 + 1, 1, none⟩ (.slice hs.A1 (staF L f).f1.length hs.c1)).setCell ⟨w.heap.size + 1 + 1, 2, none⟩ (.slice hs.A2 (staF L f).f2.length hs.c2)).setCell ⟨w.heap.size + 1 + 1, 3, none⟩ (.slice hs.A3 (staF L f).f3.length hs.c3)).setCell ⟨w.heap.size + 1 + 1, 4, none⟩ (.slice hs.A4 (staF L f).f4.length hs.c4)).setCell ⟨w.heap.size + 1 + 1, 5, none⟩ (.slice (some ⟨w.heap.size + 1 + 1 + 1, 0, none⟩) L.length L.length)) := ⟨_, rfl⟩
      have kF : Bk F (w.heap.size + 1 + 1) 31 #[.slice hs.A0 (staF L f).f0.length hs.c0, .slice hs.A1 (staF L f).f1.length hs.c1, .slice hs.A2 (staF L f).f2.length hs.c2, .slice hs.A3 (staF L f).f3.length hs.c3, .slice hs.A4 (staF L f).f4.length hs.c4, .slice (some ⟨w.heap.size + 1 + 1 + 1, 0, none⟩) L.length L.length] := by
        rw [hF]; have a0 := K2.out
        have a1 := a0.set 0 (.slice hs.A0 (staF L f).f0.length hs.c0)
        have a2 := a1.set 1 (.slice hs.A1 (staF L f).f1.length hs.c1)
        have a3 := a2.set 2 (.slice hs.A2 (staF L f).f2.length hs.c2)
        have a4 := a3.set 3 (.slice hs.A3 (staF L f).f3.length hs.c3)
        have a5 := a4.set 4 (.slice hs.A4 (staF L f).f4.length hs.c4)
        have a6 := a5.set 5 (.slice (some ⟨w.heap.size + 1 + 1 + 1, 0, none⟩) L.length L.length)
        simpa using a6
      have bF : ∀ B, B ≤ w.heap.size + 1 + 1 → Below B w1 F := fun B hB => by rw [hF]; exact (((((((Below.refl _ _).setCell (by show B ≤ w.heap.size + 1 + 1; omega) _).setCell (by show B ≤ w.heap.size + 1 + 1; omega) _).setCell (by show B ≤ w.heap.size + 1 + 1; omega) _).setCell (by show B ≤ w.heap.size + 1 + 1; omega) _).setCell (by show B ≤ w.heap.size + 1 + 1; omega) _).setCell (by show B ≤ w.heap.size + 1 + 1; omega) _)
      have nF : ∀ q, q ≠ w.heap.size + 1 + 1 → F.heap[q]? = w1.heap[q]? := fun q hq => by rw [hF]; exact (Below.heap_setCell _ _ _ q (by show q ≠ w.heap.size + 1 + 1; omega)).trans ((Below.heap_setCell _ _ _ q (by show q ≠ w.heap.size + 1 + 1; omega)).trans ((Below.heap_setCell _ _ _ q (by show q ≠ w.heap.size + 1 + 1; omega)).trans ((Below.heap_setCell _ _ _ q (by show q ≠ w.heap.size + 1 + 1; omega)).trans ((Below.heap_setCell _ _ _ q (by show q ≠ w.heap.size + 1 + 1; omega)).trans (Below.heap_setCell _ _ _ q (by show q ≠ w.heap.size + 1 + 1; omega))))))
      have sF : F.heap.size = w1.heap.size := by rw [hF]; simp
      have cF0 := kF.cell 0
      have cF1 := kF.cell 1
      have cF2 := kF.cell 2
      have cF3 := kF.cell 3
      have cF4 := kF.cell 4
      have cF5 := kF.cell 5
      simp only [List.getElem?_toArray, List.getElem?_cons_zero, List.getElem?_cons_succ] at cF0 cF1 cF2 cF3 cF4 cF5
      have HF := Lib.hid hF
      have KF := Lib.hid kF
      clear hF kF
      have CF0 := Lib.hid cF0
      clear cF0
      have CF1 := Lib.hid cF1
      clear cF1
      have CF2 := Lib.hid cF2
      clear cF2
      have CF3 := Lib.hid cF3
      clear cF3
      have CF4 := Lib.hid cF4
      clear cF4
      have CF5 := Lib.hid cF5
      clear cF5
      have NF := Lib.hid nF
      have BF := Lib.hid bF
      have sFa := Nat.le_of_eq sF
      have sFb := Nat.le_of_eq sF.symm
      clear nF bF sF
      go_wp2
      rw [← HF.out]
      have cF0 := CF0.out
      have cF1 := CF1.out
      have cF2 := CF2.out
      have cF3 := CF3.out
      have cF4 := CF4.out
      have cF5 := CF5.out
      refine bodyPost_ret (v := .agg #[.slice hs.A0 (staF L f).f0.length hs.c0, .slice hs.A1 (staF L f).f1.length hs.c1, .slice hs.A2 (staF L f).f2.length hs.c2, .slice hs.A3 (staF L f).f3.length hs.c3, .slice hs.A4 (staF L f).f4.length hs.c4, .slice (some ⟨w.heap.size + 1 + 1 + 1, 0, none⟩) L.length L.length]) (by simp [results, Try.results51, cF0, cF1, cF2, cF3, cF4, cF5, go_sem]) rfl ?_
      refine ⟨⟨hs, ⟨some ⟨w.heap.size + 1 + 1 + 1, 0, none⟩, L.length⟩⟩, by simp [BufV, bufOf], B1.out.trans (BF.out _ (by omega)), by omega, wr.heap.size, w1.heap.size, w.heap.size + 1 + 1 + 1, wr.heap.size, by omega, by omega, by omega, by omega, Or.inr (Nat.le_refl _), ?_, ?_⟩
      · exact Own.out.keep (Nat.le_refl _) (Nat.le_refl _) fun q h1 h2 => NF.out q (by omega)
      · exact IO.out.keep (Nat.le_refl _) (Nat.le_refl _) fun q h1 h2 => NF.out q (by omega)

/-- The codes of a record's buffers. -/
def cdsB (o : Buf) : Nat → List Nat := fun t => cdR (o.bs.getD t [])
def part (b : Nat → List Nat) (k : Nat) : Nat → List Nat := fun t => if t < k then b t else []
abbrev Qk (f : Nat → Nat) (b : Nat → List Nat) : Array Value := #[.int .u64 (enc WS f : Nat), .int .u64 (bwC (b 0) : Nat), .int .u64 (bwC (b 1) : Nat), .int .u64 (bwC (b 2) : Nat)]
theorem qk_next (f : Nat → Nat) (b : Nat → List Nat) {k : Nat} (hk : k < 3) : (Qk f (part b k)).setIfInBounds (1 + k) (.int .u64 (bwC (b k) : Nat)) = Qk f (part b (k + 1)) := by
  rcases (show k = 0 ∨ k = 1 ∨ k = 2 by omega) with rfl | rfl | rfl <;> rfl
theorem cdsB_row {o : Buf} (hok : ∀ xs ∈ o.bs, lokB xs = true) {k : Nat} {xs : List Int} (hx : o.bs[k]? = some xs) : rowS (cdsB o k) = xs ∧ okS (cdsB o k) ∧ (cdsB o k).length ≤ 6 := by
  have e : o.bs.getD k [] = xs := by simp [List.getD, hx]
  unfold cdsB
  rw [e]
  obtain ⟨h1, h2, h3⟩ := lok_parts (hok xs (List.mem_of_getElem? hx))
  exact ⟨h3, h1, h2⟩
theorem cdsB_ok {o : Buf} (hok : ∀ xs ∈ o.bs, lokB xs = true) : okB7 (cdsB o) 6 := fun t _ => by
  rcases Nat.lt_or_ge t o.bs.length with h | h
  · obtain ⟨_, h1, h2⟩ := cdsB_row hok (List.getElem?_eq_getElem h)
    exact ⟨h1, h2⟩
  · have e : o.bs.getD t [] = [] := by simp [List.getD, List.getElem?_eq_none h]
    unfold cdsB
    rw [e]
    exact ⟨fun c hc => by simp [cdR] at hc, by simp [cdR]⟩
theorem cdsB_off {o : Buf} {t : Nat} (h : o.bs.length ≤ t) : cdsB o t = [] := by
  have e : o.bs.getD t [] = [] := by simp [List.getD, List.getElem?_eq_none h]
  unfold cdsB
  rw [e]; rfl
theorem part_all {o : Buf} {n : Nat} (h : o.bs.length = n) : part (cdsB o) n = cdsB o := by
  funext t
  unfold part
  split
  · rfl
  · exact (cdsB_off (by omega)).symm
theorem packbuf_any (h : PgH) (L : Pg) (k : BufH) (o : Buf) (w : World) (B : Nat) (hP : PgR w B h L) (hS : BufR w B k o) (hB : B ≤ w.heap.size) (P : StP L o.st) (hlen : o.bs.length = L.length) (hok : ∀ xs ∈ o.bs, lokB xs = true) :
    Calls Try.prog 73 #[PgV h L, BufV k o] w fun e w' => e = .returned (QV (wdF L o.st) (cdsB o)) ∧ Below w.heap.size w w' := by
  have h32 := P.n3
  have bl : o.bs.length ≤ 3 := by omega
  have HLen := Lib.hid hlen
  clear hlen
  obtain ⟨W, hW⟩ : ∃ W, W = ((w.alloc (.cells #[.slice h.A L.length h.c] 36)).alloc (.cells #[.slice k.h.A0 o.st.f0.length k.h.c0, .slice k.h.A1 o.st.f1.length k.h.c1, .slice k.h.A2 o.st.f2.length k.h.c2, .slice k.h.A3 o.st.f3.length k.h.c3, .slice k.h.A4 o.st.f4.length k.h.c4, .slice k.k.A o.bs.length k.k.c] 31)).alloc (.cells #[.int .u64 0, .int .u64 0, .int .u64 0, .int .u64 0] 74) := ⟨_, rfl⟩
  have bW : Below w.heap.size w W := by rw [hW]; go_grown
  have sW : W.heap.size = w.heap.size + 1 + 1 + 1 := by rw [hW]; simp
  have k0 : Bk W w.heap.size 36 #[.slice h.A L.length h.c] := by rw [hW]; exact ((Bk.new w _ _).alloc _).alloc _
  have k1 : Bk W (w.heap.size + 1) 31 #[.slice k.h.A0 o.st.f0.length k.h.c0, .slice k.h.A1 o.st.f1.length k.h.c1, .slice k.h.A2 o.st.f2.length k.h.c2, .slice k.h.A3 o.st.f3.length k.h.c3, .slice k.h.A4 o.st.f4.length k.h.c4, .slice k.k.A o.bs.length k.k.c] := by
    rw [hW]; have := (Bk.new (w.alloc (.cells #[.slice h.A L.length h.c] 36)) #[.slice k.h.A0 o.st.f0.length k.h.c0, .slice k.h.A1 o.st.f1.length k.h.c1, .slice k.h.A2 o.st.f2.length k.h.c2, .slice k.h.A3 o.st.f3.length k.h.c3, .slice k.h.A4 o.st.f4.length k.h.c4, .slice k.k.A o.bs.length k.k.c] 31).alloc (.cells #[.int .u64 0, .int .u64 0, .int .u64 0, .int .u64 0] 74)
    rwa [World.size_alloc] at this
  have k2 : Bk W (w.heap.size + 1 + 1) 74 #[.int .u64 0, .int .u64 0, .int .u64 0, .int .u64 0] := by
    rw [hW]; have := Bk.new ((w.alloc (.cells #[.slice h.A L.length h.c] 36)).alloc (.cells #[.slice k.h.A0 o.st.f0.length k.h.c0, .slice k.h.A1 o.st.f1.length k.h.c1, .slice k.h.A2 o.st.f2.length k.h.c2, .slice k.h.A3 o.st.f3.length k.h.c3, .slice k.h.A4 o.st.f4.length k.h.c4, .slice k.k.A o.bs.length k.k.c] 31)) #[.int .u64 0, .int .u64 0, .int .u64 0, .int .u64 0] 74
    rwa [World.size_alloc, World.size_alloc] at this
  have P0 := Lib.hid (hP.below bW hB)
  have Q0 := Lib.hid (hS.below bW hB)
  have K1 := Lib.hid k1
  have K2 := Lib.hid k2
  have BW := Lib.hid bW
  have HW := Lib.hid hW
  have sWa := Nat.le_of_eq sW
  have sWb := Nat.le_of_eq sW.symm
  clear hW bW sW k0 k1 k2 hP hS
  go_enter Try.func73, Try.ntmps73
  go_wp2_with fail
  rw [← HW.out]
  have key := packed_any h L k.h o.st W B P0.out Q0.out.s (by omega) P
  refine key.mono ?_
  clear key
  rintro e w1 ⟨rfl, hb1⟩
  obtain ⟨f, hf⟩ : ∃ f, wdF L o.st = f := ⟨_, rfl⟩
  rw [hf]
  have HFf := Lib.hid hf
  clear hf
  have z1 := hb1.size
  have B1 := Lib.hid (below_on BW.out hb1)
  have K11 := Lib.hid (K1.out.below hb1 K1.out.lt)
  have K21 := Lib.hid (K2.out.below hb1 K2.out.lt)
  have Q1 := Lib.hid (Q0.out.below hb1 (by omega))
  clear hb1
  have c5 : w1.cell? ⟨w.heap.size + 1, 5, none⟩ = some (.slice k.k.A o.bs.length k.k.c) := K11.out.cell 5
  have l5 := K11.out.lt
  obtain ⟨bs, hbs⟩ : ∃ bs, o.bs = bs := ⟨_, rfl⟩
  obtain ⟨A, c, hA, hc⟩ : ∃ A c, k.k.A = A ∧ k.k.c = c := ⟨_, _, rfl, rfl⟩
  rw [hA, hc] at c5
  rw [hbs] at c5
  have hbl : bs.length ≤ 3 := by rw [← hbs]; exact bl
  have V1 := Lib.hid (show Vss w1 B A (vsIss bs) from hA ▸ hbs ▸ Q1.out.b.v)
  have HOK : Hid (∀ k xs, bs[k]? = some xs → rowS (cdsB o k) = xs ∧ okS (cdsB o k) ∧ (cdsB o k).length ≤ 6) := Lib.hid (fun k xs hx => cdsB_row hok (by rw [hbs]; exact hx))
  have HB := Lib.hid hbs
  clear hA hc hbs Q1
  go_wp2_with fail
  obtain ⟨wq, hwq⟩ : ∃ V, V = w1.alloc (.cells #[.int .u64 (enc WS f : Nat), .int .u64 0, .int .u64 0, .int .u64 0] 74) := ⟨_, rfl⟩
  rw [← hwq]
  have bq : Below w1.heap.size w1 wq := by rw [hwq]; exact (Below.refl _ _).alloc (Nat.le_refl _) _
  have kq : Bk wq w1.heap.size 74 (Qk f (part (cdsB o) 0)) := by rw [hwq]; exact Bk.new _ _ _
  have K22 := K21.out.below bq K21.out.lt
  have start := Lib.hid (show Below w1.heap.size w1 wq ∧ Bk wq w1.heap.size 74 (Qk f (part (cdsB o) 0)) ∧ Bk wq (w.heap.size + 1 + 1) 74 #[.int .u64 0, .int .u64 0, .int .u64 0, .int .u64 0] from ⟨bq, kq, K22⟩)
  clear hwq bq kq K22 c5
  go_loopw [16] (fun i wr => ∃ m : Nat, m ≤ bs.length ∧ i = .int .i64 m ∧ Below w1.heap.size w1 wr ∧ Bk wr w1.heap.size 74 (Qk f (part (cdsB o) m)) ∧ Bk wr (w.heap.size + 1 + 1) 74 #[.int .u64 0, .int .u64 0, .int .u64 0, .int .u64 0]) (fun i _ => bs.length - (intOf i).toNat)
  case atStart => exact ⟨0, Nat.zero_le _, rfl, start.out⟩
  case round =>
    obtain ⟨m, hm, rfl, hb, hq, hr⟩ := hrel
    clear start
    have hz := hb.size
    by_cases hlt : m < bs.length
    · have hm3 : m < 3 := by omega
      obtain ⟨xs, hxs, -⟩ := drop_at hlt
      obtain ⟨ab, off, Ai, ci, rfl, hab, hx0, hrow⟩ := (V1.out.below hb (by omega)).at_ (vsIss_at hxs)
      rw [ints_length] at hx0
      obtain ⟨r1, r2, r3⟩ := HOK.out m xs hxs
      have habw : ab < wr.heap.size := by omega
      have BWd := Lib.hid (fun v (hv : Vs v B Ai (ints (rowS (cdsB o m)))) hB' => bufword_any Ai (cdsB o m) ci v B hv r2 (by omega) hB')
      rw [r1] at BWd
      have HRow := Lib.hid hrow
      have HQ := Lib.hid hq
      have HRr := Lib.hid hr
      have HB1 := Lib.hid hb
      have lq := hq.lt
      have lr := hr.lt
      have hti : (m : Int) < (bs.length : Int) := by omega
      clear hxs hrow r1 r2 r3 hq hr hb
      have hk2 := qk_next f (cdsB o) hm3
      have Hk2 := Lib.hid hk2
      clear hk2
      go_wp2_with fail
      refine (BWd.out wr HRow.out (by omega)).mono ?_
      rintro e w2 ⟨rfl, hb2⟩
      have z2 := hb2.size
      have k2 := HQ.out.below hb2 HQ.out.lt
      obtain ⟨v0, e0⟩ := k2.some_ (i := 1 + m) (by simp; omega)
      have q0 := k2.free (1 + m)
      have HQ2 := Lib.hid (show Bk (w2.setCell ⟨w1.heap.size, 1 + m, none⟩ (.int .u64 (bwC (cdsB o m) : Nat))) w1.heap.size 74 (Qk f (part (cdsB o) (m + 1))) from by rw [← Hk2.out]; exact k2.set _ _)
      have HR2 := Lib.hid ((HRr.out.below hb2 HRr.out.lt).far (p := ⟨w1.heap.size, 1 + m, none⟩) (by show w.heap.size + 1 + 1 ≠ w1.heap.size; omega) (.int .u64 (bwC (cdsB o m) : Nat)))
      have HB2 := Lib.hid (((HB1.out).trans (hb2.mono hz)).setCell (p := ⟨w1.heap.size, 1 + m, none⟩) (Nat.le_refl _) (.int .u64 (bwC (cdsB o m) : Nat)))
      clear hb2 k2 hx0
      go_wp2
      go_roundw
      case rel => exact ⟨m + 1, by omega, by go_num, HB2.out, HQ2.out, HR2.out⟩
      case measure => simp [intOf]; omega
    · have hml : m = bs.length := by omega
      subst hml
      have hq' : Bk wr w1.heap.size 74 (Qk f (cdsB o)) := by rw [part_all (by rw [HB.out])] at hq; exact hq
      have lq := hq'.lt
      have q0 : wr.cell? ⟨w1.heap.size, 0, none⟩ = some (.int .u64 (enc WS f : Nat)) := hq'.cell 0
      have q1 : wr.cell? ⟨w1.heap.size, 1, none⟩ = some (.int .u64 (bwC (cdsB o 0) : Nat)) := hq'.cell 1
      have q2 : wr.cell? ⟨w1.heap.size, 2, none⟩ = some (.int .u64 (bwC (cdsB o 1) : Nat)) := hq'.cell 2
      have q3 : wr.cell? ⟨w1.heap.size, 3, none⟩ = some (.int .u64 (bwC (cdsB o 2) : Nat)) := hq'.cell 3
      have K3 := Lib.hid hr
      have B3 := Lib.hid (B1.out.trans (hb.mono (by omega)))
      clear hq hq' hr hb
      generalize h0 : enc WS f = n0 at q0
      generalize h1 : bwC (cdsB o 0) = n1 at q1
      generalize h2 : bwC (cdsB o 1) = n2 at q2
      generalize h3 : bwC (cdsB o 2) = n3 at q3
      have HN := Lib.hid (show n0 = enc WS f ∧ n1 = bwC (cdsB o 0) ∧ n2 = bwC (cdsB o 1) ∧ n3 = bwC (cdsB o 2) from ⟨h0.symm, h1.symm, h2.symm, h3.symm⟩)
      clear h0 h1 h2 h3
      have fr0 := K3.out.free 0
      obtain ⟨zr0, xr0⟩ := K3.out.some_ (i := 0) (by decide)
      have fr1 := K3.out.free 1
      obtain ⟨zr1, xr1⟩ := K3.out.some_ (i := 1) (by decide)
      have fr2 := K3.out.free 2
      obtain ⟨zr2, xr2⟩ := K3.out.some_ (i := 2) (by decide)
      have fr3 := K3.out.free 3
      obtain ⟨zr3, xr3⟩ := K3.out.some_ (i := 3) (by decide)
      obtain ⟨F, hF⟩ : ∃ F, F = ((((wr.setCell ⟨w.heap.size + 1 + 1, 0, none⟩ (.int .u64 (n0 : Nat))).setCell ⟨w.heap.size + 1 + 1, 1, none⟩ (.int .u64 (n1 : Nat))).setCell ⟨w.heap.size + 1 + 1, 2, none⟩ (.int .u64 (n2 : Nat))).setCell ⟨w.heap.size + 1 + 1, 3, none⟩ (.int .u64 (n3 : Nat))) := ⟨_, rfl⟩
      have kF : Bk F (w.heap.size + 1 + 1) 74 #[.int .u64 (n0 : Nat), .int .u64 (n1 : Nat), .int .u64 (n2 : Nat), .int .u64 (n3 : Nat)] := by
        rw [hF]; have a0 := K3.out
        have a1 := a0.set 0 (.int .u64 (n0 : Nat))
        have a2 := a1.set 1 (.int .u64 (n1 : Nat))
        have a3 := a2.set 2 (.int .u64 (n2 : Nat))
        have a4 := a3.set 3 (.int .u64 (n3 : Nat))
        simpa using a4
      have bF : ∀ B, B ≤ w.heap.size + 1 + 1 → Below B wr F := fun B hB => by rw [hF]; exact (((((Below.refl _ _).setCell (by show B ≤ w.heap.size + 1 + 1; omega) _).setCell (by show B ≤ w.heap.size + 1 + 1; omega) _).setCell (by show B ≤ w.heap.size + 1 + 1; omega) _).setCell (by show B ≤ w.heap.size + 1 + 1; omega) _)
      have nF : ∀ q, q ≠ w.heap.size + 1 + 1 → F.heap[q]? = wr.heap[q]? := fun q hq => by rw [hF]; exact (Below.heap_setCell _ _ _ q (by show q ≠ w.heap.size + 1 + 1; omega)).trans ((Below.heap_setCell _ _ _ q (by show q ≠ w.heap.size + 1 + 1; omega)).trans ((Below.heap_setCell _ _ _ q (by show q ≠ w.heap.size + 1 + 1; omega)).trans (Below.heap_setCell _ _ _ q (by show q ≠ w.heap.size + 1 + 1; omega))))
      have sF : F.heap.size = wr.heap.size := by rw [hF]; simp
      have cF0 := kF.cell 0
      have cF1 := kF.cell 1
      have cF2 := kF.cell 2
      have cF3 := kF.cell 3
      simp only [List.getElem?_toArray, List.getElem?_cons_zero, List.getElem?_cons_succ] at cF0 cF1 cF2 cF3
      have HF := Lib.hid hF
      have KF := Lib.hid kF
      clear hF kF
      have CF0 := Lib.hid cF0
      clear cF0
      have CF1 := Lib.hid cF1
      clear cF1
      have CF2 := Lib.hid cF2
      clear cF2
      have CF3 := Lib.hid cF3
      clear cF3
      have NF := Lib.hid nF
      have BF := Lib.hid bF
      have sFa := Nat.le_of_eq sF
      have sFb := Nat.le_of_eq sF.symm
      clear nF bF sF
      go_wp2
      rw [← HF.out]
      have cF0 := CF0.out
      have cF1 := CF1.out
      have cF2 := CF2.out
      have cF3 := CF3.out
      refine bodyPost_ret (v := .agg #[.int .u64 (n0 : Nat), .int .u64 (n1 : Nat), .int .u64 (n2 : Nat), .int .u64 (n3 : Nat)]) (by simp [results, Try.results73, cF0, cF1, cF2, cF3, go_sem]) rfl ?_
      obtain ⟨g0, g1, g2, g3⟩ := HN.out
      exact ⟨by rw [g0, g1, g2, g3, HFf.out], B3.out.trans (BF.out _ (by omega))⟩
end Go.Proofs.Ytpcdcgcbhhnhhaa
