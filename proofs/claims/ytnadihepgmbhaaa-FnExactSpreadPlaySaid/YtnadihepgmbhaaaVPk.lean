/-
  States with buffers as words: what the program's packedBuffered and packedSpread come to.
-/
import Derived.Test.YtnadihepgmbhaaaSpr
import Derived.Test.YtnadihepgmbhaaaBfP
import Derived.Test.YtnadihepgmbhaaaStOk
import Derived.Test.YtnadihepgmbhaaaVQ
import Derived.Test.YtnadihepgmbhaaaICan
import Derived.Test.YtnadihepgmbhaaaBegin
namespace Go.Proofs.Ytnadihepgmbhaaa
open Go.RowKit Pl Go.BigFrame
set_option maxHeartbeats 4000000
set_option maxRecDepth 100000
set_option linter.unusedVariables false

def bufB (L : Pg) (o : Buf) : Bool := (stB L o.st && decide (o.bs.length = L.length)) && o.bs.all lokB
end Go.Proofs.Ytnadihepgmbhaaa
namespace Go.Proofs.Ytnadihepgmbhaaa
open Go.RowKit Pl Go.BigFrame
set_option maxHeartbeats 4000000
set_option maxRecDepth 100000
set_option linter.unusedVariables false

def sprB (L : Pg) (o : Buf) : Bool := (stB L o.st && decide (o.bs.length = L.length * 3)) && o.bs.all vokB
end Go.Proofs.Ytnadihepgmbhaaa
namespace Go.Proofs.Ytnadihepgmbhaaa
open Go.RowKit Pl Go.BigFrame
set_option maxHeartbeats 4000000
set_option maxRecDepth 100000
set_option linter.unusedVariables false

theorem spr_row : RowT 31 6 := ⟨by kernel_rfl, _, Try.underlying31, rfl⟩
theorem sl6_one (A0 A1 A2 A3 A4 A5 : Option Addr) (n0 n1 n2 n3 n4 n5 c0 c1 c2 c3 c4 c5 : Nat) : (#[.slice A0 n0 c0, .slice A1 n1 c1, .slice A2 n2 c2, .slice A3 n3 c3, .slice A4 n4 c4, .slice A5 n5 c5] : Array Value).all (·.oneCell') = true := by simp [Value.oneCell']
/-- Rows of the call's own, put one by one below headers that were made ahead. -/
structure RwsO (w wr : World) (g n : Nat) (F : Nat → List Int) (k : Nat) : Prop where
  bel : Below w.heap.size w wr
  hd : ∃ (cs : Array Value) (D : Nat → Option Addr) (C : Nat → Nat), Bk wr g 26 cs ∧ cs.size = n ∧ (∀ j, j < k → cs[j]? = some (.slice (D j) (F j).length (C j)) ∧ OwnVs wr (g + 1) wr.heap.size 3 (D j) (ints (F j))) ∧ ∀ i j, i < j → j < k → 0 < (F i).length → 0 < (F j).length → D i ≠ D j
theorem own_where {w : World} {lo hi : Nat} {t : TypeId} {A : Option Addr} {xs : List Int} (h : OwnVs w lo hi t A (ints xs)) (hn : 0 < xs.length) : ∃ g, A = some ⟨g, 0, none⟩ ∧ lo ≤ g ∧ g < hi := by
  obtain ⟨g, cs, hA, h1, h2, _⟩ := h (by rw [ints_length]; exact hn)
  exact ⟨g, hA, h1, h2⟩
theorem RwsO.next {w wr w1 : World} {g n k c : Nat} {F : Nat → List Int} {A : Option Addr} (h : RwsO w wr g n F k) (hk : k < n) (hg : w.heap.size ≤ g) (hb : Below wr.heap.size wr w1) (ho : OwnVs w1 wr.heap.size w1.heap.size 3 A (ints (F k))) :
    RwsO w (w1.setCell ⟨g, k, none⟩ (.slice A (F k).length c)) g n F (k + 1) := by
  obtain ⟨h0, cs, D, C, hbk, hsz, hc, hd⟩ := h
  have hlt := hbk.lt
  have hz := hb.size
  have hset : ∀ i, i ≠ g → (w1.setCell ⟨g, k, none⟩ (.slice A (F k).length c)).heap[i]? = w1.heap[i]? := fun i hi => Below.heap_setCell w1 ⟨g, k, none⟩ _ i hi
  have hs2 : (w1.setCell ⟨g, k, none⟩ (.slice A (F k).length c)).heap.size = w1.heap.size := World.size_setCell ..
  refine ⟨(below_on h0 hb).setCell hg _, _, fun i => if i = k then A else D i, fun i => if i = k then c else C i, (hbk.below hb hlt).set _ _, by simpa using hsz, ?_, ?_⟩
  · intro j hj
    by_cases e : j = k
    · subst e
      simp only [if_true]
      refine ⟨by simp [hsz, hk], ?_⟩
      rw [hs2]
      exact ho.keep (by omega) (Nat.le_refl _) fun i h1 h2 => hset i (by omega)
    · simp only [if_neg e]
      obtain ⟨g0, g1⟩ := hc j (by omega)
      refine ⟨by rw [Array.getElem?_setIfInBounds_ne (by omega)]; exact g0, ?_⟩
      rw [hs2]
      exact g1.keep (Nat.le_refl _) hz fun i h1 h2 => (hset i (by omega)).trans (hb.block i h2)
  · intro i j hij hj hi0 hj0
    by_cases e : j = k
    · subst e
      have e' : i ≠ j := by omega
      simp only [if_true, if_neg e']
      obtain ⟨ga, ea, _, h2⟩ := own_where (hc i (by omega)).2 hi0
      obtain ⟨gb, eb, h3, _⟩ := own_where ho hj0
      rw [ea, eb]
      intro e
      injection e with e
      injection e with e
      omega
    · have e' : i ≠ k := by omega
      simp only [if_neg e, if_neg e']
      exact hd i j hij (by omega) hi0 hj0
theorem RwsO.done {w wr : World} {g n lo : Nat} {F : Nat → List Int} (h : RwsO w wr g n F n) (hl : lo ≤ g) (c : Nat) : IssO wr lo wr.heap.size ⟨some ⟨g, 0, none⟩, c⟩ ((List.range n).map F) := ⟨fun _ => by
  obtain ⟨_, cs, D, C, hbk, _, hc, hd⟩ := h
  have at_ : ∀ {i : Nat} {vs : List Value}, (vsIss ((List.range n).map F))[i]? = some vs → i < n ∧ vs = ints (F i) := by
    intro i vs hi
    obtain ⟨xs, hx, rfl⟩ := vsIss_inv hi
    have hl := (List.getElem?_eq_some_iff.1 hx).1
    rw [List.length_map, List.length_range] at hl
    rw [List.getElem?_map, List.getElem?_range hl] at hx
    simp at hx
    exact ⟨hl, by rw [hx]⟩
  refine ⟨g, cs, D, C, rfl, hl, hbk.lt, hbk, ?_, ?_⟩
  · intro i vs hi
    obtain ⟨h1, rfl⟩ := at_ hi
    obtain ⟨g0, g1⟩ := hc i h1
    rw [ints_length]
    exact ⟨g0, g1.keep (by omega) (Nat.le_refl _) fun _ _ _ => rfl⟩
  · intro i j vs us hij hi hj h0 h1
    obtain ⟨_, rfl⟩ := at_ hi
    obtain ⟨h2, rfl⟩ := at_ hj
    rw [ints_length] at h0 h1
    exact hd i j hij h2 h0 h1⟩

/-- The record of words. -/
def bufOf (L : Pg) (f : Nat → Nat) (b : Nat → List Nat) : Buf := ⟨staF L f, (List.range L.length).map fun t => rowS (b t)⟩
def sprOf (L : Pg) (f : Nat → Nat) (b : Nat → List Nat) : Buf := ⟨staF L f, (List.range (L.length * 3)).map fun t => rowV (b t)⟩
theorem sprOf_len (L : Pg) (f : Nat → Nat) (b : Nat → List Nat) : (sprOf L f b).bs.length = L.length * 3 := by simp [sprOf]
/-- An answer of a record that is the call's own. -/
def AnsB (w : World) (o : Buf) (e : Ending) (w' : World) : Prop := ∃ k, e = .returned (BufV k o) ∧ Below w.heap.size w w' ∧ w.heap.size < w'.heap.size ∧ BufO w' w.heap.size w'.heap.size k o
theorem unpspr_any (h : PgH) (L : Pg) (f : Nat → Nat) (b : Nat → List Nat) (w : World) (hL : progB L = true) (hf : okF WS f) (hb : okB9 b 7) :
    Calls Try.prog 55 #[PgV h L, QV 3 f b] w (AnsB w (sprOf L f b)) := by
  obtain ⟨h31, h32⟩ := prog_len hL
  obtain ⟨n, hn⟩ : ∃ n, L.length * 3 = n := ⟨_, rfl⟩
  have hn9 : n ≤ 9 := by omega
  obtain ⟨W, hW⟩ : ∃ W, W = ((w.alloc (.cells #[.slice h.A L.length h.c] 36)).alloc (.cells (mkQ 3 (enc WS f) (mk9 b) fun i => bwC (b i)) TQ)).alloc (.cells #[.slice none 0 0, .slice none 0 0, .slice none 0 0, .slice none 0 0, .slice none 0 0, .slice none 0 0] 31) := ⟨_, rfl⟩
  have bW : Below w.heap.size w W := by rw [hW]; go_grown
  have sW : W.heap.size = w.heap.size + 1 + 1 + 1 := by rw [hW]; simp
  have k0 : Bk W w.heap.size 36 #[.slice h.A L.length h.c] := by rw [hW]; exact ((Bk.new w _ _).alloc _).alloc _
  have k1 : Bk W (w.heap.size + 1) TQ (mkQ 3 (enc WS f) (mk9 b) fun i => bwC (b i)) := by
    rw [hW]; have := (Bk.new (w.alloc (.cells #[.slice h.A L.length h.c] 36)) (mkQ 3 (enc WS f) (mk9 b) fun i => bwC (b i)) TQ).alloc (.cells #[.slice none 0 0, .slice none 0 0, .slice none 0 0, .slice none 0 0, .slice none 0 0, .slice none 0 0] 31)
    rwa [World.size_alloc] at this
  have k2 : Bk W (w.heap.size + 1 + 1) 31 #[.slice none 0 0, .slice none 0 0, .slice none 0 0, .slice none 0 0, .slice none 0 0, .slice none 0 0] := by
    rw [hW]; have := Bk.new ((w.alloc (.cells #[.slice h.A L.length h.c] 36)).alloc (.cells (mkQ 3 (enc WS f) (mk9 b) fun i => bwC (b i)) TQ)) #[.slice none 0 0, .slice none 0 0, .slice none 0 0, .slice none 0 0, .slice none 0 0, .slice none 0 0] 31
    rwa [World.size_alloc, World.size_alloc] at this
  obtain ⟨i0, hi, hz0, hz1, hz2⟩ := info_parts info_il
  have hmk := make_any Try.underlying29 hi hz0 n (by rw [hz2]; omega) (by omega)
  rw [hz1, Nat.mul_one] at hmk
  have start := Lib.hid (show RwsO w (W.alloc (.cells (madeCells #[.slice none 0 0] n) 26)) (W.heap.size) n (fun t => rowV (b t)) 0 from by
    exact ⟨bW.alloc (by omega) _, _, fun _ => none, fun _ => 0, Bk.new _ _ _, by simp [size_madeCells], fun j hj => absurd hj (by omega), fun i j _ hj => absurd hj (by omega)⟩)
  have st0 := Lib.hid (show Bk (W.alloc (.cells (madeCells #[.slice none 0 0] n) 26)) w.heap.size 36 #[.slice h.A L.length h.c] from k0.alloc _)
  have st1 := Lib.hid (show Bk (W.alloc (.cells (madeCells #[.slice none 0 0] n) 26)) (w.heap.size + 1) TQ (mkQ 3 (enc WS f) (mk9 b) fun i => bwC (b i)) from k1.alloc _)
  have st2 := Lib.hid (show Bk (W.alloc (.cells (madeCells #[.slice none 0 0] n) 26)) (w.heap.size + 1 + 1) 31 #[.slice none 0 0, .slice none 0 0, .slice none 0 0, .slice none 0 0, .slice none 0 0, .slice none 0 0] from k2.alloc _)
  have stz : Hid (W.heap.size < (W.alloc (.cells (madeCells #[.slice none 0 0] n) 26)).heap.size) := Lib.hid (by simp [sW])
  have HF := Lib.hid hf
  have Hb := Lib.hid hb
  have HN0 := Lib.hid hn
  have HW := Lib.hid hW
  have sWa := Nat.le_of_eq sW
  have sWb := Nat.le_of_eq sW.symm
  have cpl := k0.lt
  have cp' : W.cell? ⟨w.heap.size, 0, none⟩ = some (.slice h.A L.length h.c) := k0.cell 0
  have hni : (L.length : Int) * 3 = (n : Int) := by omega
  clear hz0 hz1 hz2 hi hW bW sW k0 k1 k2 hf hb hn
  go_enter Try.func55, Try.ntmps55
  go_wp2_with (rw [← HW.out])
  clear hmk cp' cpl
  go_loopw [14] (fun i wr => ∃ k : Nat, k ≤ n ∧ i = .int .i64 k ∧ RwsO w wr (W.heap.size) n (fun t => rowV (b t)) k ∧ Bk wr w.heap.size 36 #[.slice h.A L.length h.c] ∧ Bk wr (w.heap.size + 1) TQ (mkQ 3 (enc WS f) (mk9 b) fun i => bwC (b i)) ∧ Bk wr (w.heap.size + 1 + 1) 31 #[.slice none 0 0, .slice none 0 0, .slice none 0 0, .slice none 0 0, .slice none 0 0, .slice none 0 0]) (fun i _ => n - (intOf i).toNat)
  case atStart => exact ⟨0, Nat.zero_le _, rfl, start.out, st0.out, st1.out, st2.out⟩
  case round =>
    obtain ⟨k, hk, rfl, hrw, hp, hq, hr⟩ := hrel
    clear start st0 st1 st2 stz
    have hz := hrw.bel.size
    by_cases hlt : k < n
    · have hk9 : k < 9 := by omega
      obtain ⟨hbk1, hbk2⟩ := Hb.out k hk9
      have ck : wr.cell? ⟨w.heap.size + 1, 2 + k, none⟩ = some (.int .u64 (bwC (b k) : Nat)) := (hq.cell (2 + k)).trans (mkQ_k _ _ _ _ hk9)
      have lq := hq.lt
      have lp := hp.lt
      have lr := hr.lt
      obtain ⟨cs, D, C, hbk, hsz, hcs, hds⟩ := id hrw.hd
      obtain ⟨v0, e0⟩ := hbk.some_ (i := k) (by omega)
      have q0 := hbk.free k
      have lg := hbk.lt
      have BL := Lib.hid (fun v => placevals_any (b k) v hbk1 hbk2)
      have HRw := Lib.hid hrw
      have HP := Lib.hid hp
      have HQ := Lib.hid hq
      have HRr := Lib.hid hr
      have hti : (k : Int) < (n : Int) := by omega
      have hki : (k : Int) < 9 := by omega
      have hl2 : Hid ((rowV (b k)).length = (b k).length) := Lib.hid (rowV_length _)
      clear hbk hcs hds hrw hp hq hr hbk1 hbk2
      generalize hW2 : bwC (b k) = W2 at ck
      rw [hW2] at BL
      clear hW2
      go_wp2_with fail
      refine (BL.out _).mono ?_
      rintro e w1 ⟨A, c, rfl, hb1, own⟩
      have z1 := hb1.size
      obtain ⟨hc1, hf1⟩ := bcell hb1
      have HN := Lib.hid (HRw.out.next hlt (by omega) hb1 own (c := c))
      have kset : ∀ {g : Nat} {t : TypeId} {cs : Array Value}, Bk wr g t cs → g ≠ W.heap.size → Bk (w1.setCell ⟨W.heap.size, k, none⟩ (.slice A (rowV (b k)).length c)) g t cs := fun hg hne => (hg.below hb1 hg.lt).far (p := ⟨W.heap.size, k, none⟩) hne _
      have HP1 := Lib.hid (kset HP.out (by omega))
      have HQ1 := Lib.hid (kset HQ.out (by omega))
      have HR1 := Lib.hid (kset HRr.out (by omega))
      rw [hl2.out] at HN HP1 HQ1 HR1
      clear hb1 own kset ck
      go_wp2
      go_roundw
      case rel => exact ⟨k + 1, by omega, by go_num, HN.out, HP1.out, HQ1.out, HR1.out⟩
      case measure => simp [intOf]; omega
    · have hkl : k = n := by omega
      subst hkl
      have cP : wr.cell? ⟨w.heap.size, 0, none⟩ = some (.slice h.A L.length h.c) := hp.cell 0
      have cQ : wr.cell? ⟨w.heap.size + 1, 1, none⟩ = some (.int .u64 (enc WS f : Nat)) := (hq.cell 1).trans (mkQ_1 _ _ _ _)
      have lq := hq.lt
      have lp := hp.lt
      have HRw := Lib.hid hrw
      have HRr := Lib.hid hr
      clear hp hq hr hrw
      go_wp2_with fail
      refine (unpacked_any h L f wr hL HF.out).mono ?_
      rintro e w1 ⟨hs, rfl, hb1, hl1, own⟩
      have B1 := Lib.hid (below_on HRw.out.bel hb1)
      have K2 := Lib.hid (HRr.out.below hb1 HRr.out.lt)
      have Own := Lib.hid own
      have IO := Lib.hid ((HRw.out.done (lo := W.heap.size) (Nat.le_refl _) k).below hb1 (Nat.le_refl _))
      have lg : W.heap.size < wr.heap.size := by obtain ⟨cs, D, C, hbk, _⟩ := HRw.out.hd; exact hbk.lt
      have z1 := hb1.size
      clear hb1 own cP cQ
      go_wp2_with (refine st_r spr_row rfl _ _ rfl (w.heap.size + 1 + 1) rfl 31 _ #[.slice hs.A0 (staF L f).f0.length hs.c0, .slice hs.A1 (staF L f).f1.length hs.c1, .slice hs.A2 (staF L f).f2.length hs.c2, .slice hs.A3 (staF L f).f3.length hs.c3, .slice hs.A4 (staF L f).f4.length hs.c4, .slice (some ⟨W.heap.size, 0, none⟩) k k] rfl K2.out rfl rfl (sl6_one _ _ _ _ _ _ _ _ _ _ _ _ _ _ _ _ _ _) ?_; intro V3 s3)
      refine bodyPost_ret (v := .agg #[.slice hs.A0 (staF L f).f0.length hs.c0, .slice hs.A1 (staF L f).f1.length hs.c1, .slice hs.A2 (staF L f).f2.length hs.c2, .slice hs.A3 (staF L f).f3.length hs.c3, .slice hs.A4 (staF L f).f4.length hs.c4, .slice (some ⟨W.heap.size, 0, none⟩) k k]) (res_r spr_row rfl rfl s3.bk rfl) rfl ?_
      have hsz := s3.size
      refine ⟨⟨hs, ⟨some ⟨W.heap.size, 0, none⟩, k⟩⟩, by rw [← HN0.out]; simp [BufV, sprOf], B1.out.trans (s3.bel _ (by omega)), by omega, wr.heap.size, w1.heap.size, W.heap.size, wr.heap.size, by omega, by omega, by omega, by omega, Or.inr (Nat.le_refl _), ?_, ?_⟩
      · exact Own.out.keep (Nat.le_refl _) (Nat.le_refl _) fun q h1 h2 => s3.far q (by omega)
      · have := IO.out.keep (Nat.le_refl _) (Nat.le_refl _) fun q h1 h2 => s3.far q (by omega)
        rw [← HN0.out] at this ⊢
        exact this
end Go.Proofs.Ytnadihepgmbhaaa
namespace Go.Proofs.Ytnadihepgmbhaaa
open Go.RowKit Pl Go.BigFrame
set_option maxHeartbeats 1000000
set_option maxRecDepth 100000
set_option linter.unusedVariables false

/-- The codes of a record's buffers. -/
def cdsB (o : Buf) : Nat → List Nat := fun t => cdR (o.bs.getD t [])
def cdsV (o : Buf) : Nat → List Nat := fun t => cdV (t % 3) (o.bs.getD t [])
def part (b : Nat → List Nat) (k : Nat) : Nat → List Nat := fun t => if t < k then b t else []
theorem getD_row {o : Buf} {k : Nat} {xs : List Int} (hx : o.bs[k]? = some xs) : o.bs.getD k [] = xs := by simp [List.getD, hx]
theorem getD_off {o : Buf} {k : Nat} (h : o.bs.length ≤ k) : o.bs.getD k [] = [] := by simp [List.getD, List.getElem?_eq_none h]
theorem cdsB_row {o : Buf} (hok : ∀ xs ∈ o.bs, lokB xs = true) {k : Nat} {xs : List Int} (hx : o.bs[k]? = some xs) : rowS (cdsB o k) = xs ∧ okS (cdsB o k) ∧ (cdsB o k).length ≤ 6 := by
  unfold cdsB
  rw [getD_row hx]
  obtain ⟨h1, h2, h3⟩ := lok_parts (hok xs (List.mem_of_getElem? hx))
  exact ⟨h3, h1, h2⟩
theorem cdsV_row {o : Buf} (hok : ∀ xs ∈ o.bs, vokB xs = true) {k : Nat} {xs : List Int} (hx : o.bs[k]? = some xs) : rowV (cdsV o k) = xs ∧ okS (cdsV o k) ∧ (cdsV o k).length ≤ 6 ∧ (∀ c ∈ cdsV o k, c / 4 = k % 3) ∧ cdsV o k = cdV (k % 3) xs := by
  unfold cdsV
  rw [getD_row hx]
  obtain ⟨h1, h2, h3, h4⟩ := vok_parts (p := k % 3) (by omega) (hok xs (List.mem_of_getElem? hx))
  exact ⟨h3, h1, h2, h4, rfl⟩
theorem cdsV_off {o : Buf} {t : Nat} (h : o.bs.length ≤ t) : cdsV o t = [] := by
  unfold cdsV; rw [getD_off h]; rfl
end Go.Proofs.Ytnadihepgmbhaaa
