/-
  What the reference model's l5Zeros comes to; tables of clocks in memory.
-/
import Derived.Test.YtidibnmlceccnaaBegin
import Derived.Test.YtidibnmlceccnaaCWords
import Derived.Test.YtidibnmlceccnaaRwI
namespace Go.Proofs.Ytidibnmlceccnaa
open Go.RowKit Pl Go.BigFrame
set_option maxHeartbeats 4000000
set_option maxRecDepth 100000
set_option linter.unusedVariables false

@[simp] theorem rowC_length (n : Nat) (c : Ck) : (rowC n c).length = n := by simp [rowC]
theorem rowC_fld (n : Nat) (c : Ck) : fldI c 0 (fL 7) n = rowC n c := by
  unfold fldI rowC
  refine List.map_congr_left fun i _ => ?_
  rw [Nat.zero_add]
  show ((c i : Nat) : Int) + 0 = _
  omega
def rowsF (n m : Nat) (F : Nat → Ck) : List (List Int) := (List.range m).map fun j => rowC n (F j)
@[simp] theorem rowsF_length (n m : Nat) (F : Nat → Ck) : (rowsF n m F).length = m := by simp [rowsF]
theorem rowsF_at {n m j : Nat} {F : Nat → Ck} (h : j < m) : (rowsF n m F)[j]? = some (rowC n (F j)) := by simp [rowsF, h]
theorem rowsF_next (n m : Nat) (F : Nat → Ck) : rowsF n (m + 1) F = rowsF n m F ++ [rowC n (F m)] := by
  unfold rowsF; rw [List.range_succ, List.map_append]; rfl
theorem okC {c : Ck} (hc : Low c) : okF WC c := okF_of fun p hp => by
  have h1 := hc p
  have h2 : wid WC p = 8 := by
    have : p = 0 ∨ p = 1 ∨ p = 2 := by simp [WC] at hp; omega
    rcases this with rfl | rfl | rfl <;> rfl
  rw [h2]; omega
/-- Headers and rows at work. -/
structure UC (w wr : World) (g n m : Nat) (F : Nat → Ck) (k : Nat) (D : Nat → Nat) : Prop where
  bel : Below w.heap.size w wr
  hd : ∃ cs, Bk wr g 25 cs ∧ cs.size = m ∧ ∀ j, j < k → cs[j]? = some (.slice (some ⟨D j, 0, none⟩) n n)
  rows : RowsI wr w.heap.size wr.heap.size (rowsF n k F) D
theorem UC.next {w wr w1 : World} {g n m k : Nat} {F : Nat → Ck} {D : Nat → Nat} (h : UC w wr g n m F k D) (hk : k < m) (hg : w.heap.size ≤ g) (hc : CopyV wr w1 3 (ints (rowC n (F k))) (ints (rowC n (F k))).length) :
    UC w (w1.setCell ⟨g, k, none⟩ (.slice (some ⟨wr.heap.size, 0, none⟩) n n)) g n m F (k + 1) (fun j => if j = k then wr.heap.size else D j) := by
  obtain ⟨h0, ⟨cs, hbk, hs, hcs⟩, hr⟩ := h
  obtain ⟨hb1, cr, hbr, hsr, hcr⟩ := hc
  have hgl := hbk.lt
  have hz := h0.size
  have hbk1 := hbk.below hb1 hgl
  have hkeep : ∀ i cz, Bk w1 i 3 cz → (w1.setCell ⟨g, k, none⟩ (.slice (some ⟨wr.heap.size, 0, none⟩) n n)).heap[i]? = w1.heap[i]? := fun i cz hz =>
    Below.heap_setCell w1 ⟨g, k, none⟩ _ i (fun e => by
      have e : i = g := e
      subst e
      unfold Bk at hz hbk1
      rw [hbk1] at hz
      injection hz with hz
      injection hz with _ hz
      cases hz)
  refine ⟨(below_on h0 hb1).setCell hg _, ⟨_, hbk1.set k _, by simpa using hs, fun j hj => ?_⟩, ?_⟩
  · show _ = some (Value.slice (some ⟨(if j = k then wr.heap.size else D j), 0, none⟩) n n)
    by_cases e : j = k
    · subst e; rw [Array.getElem?_setIfInBounds_self_of_lt (by omega), if_pos rfl]
    · rw [Array.getElem?_setIfInBounds_ne (by omega), if_neg e]; exact hcs j (by omega)
  · rw [rowsF_next, World.size_setCell]
    have r1 : RowsI w1 w.heap.size wr.heap.size (rowsF n k F) D := hr.keep (Nat.le_refl _) (Nat.le_refl _) fun i _ _ h2 _ => hb1.block i h2
    have r2 := r1.snoc (hi' := w1.heap.size) (Nat.le_refl _) hz hbr.lt hbr (x := rowC n (F k)) (fun a v hv => hcr a v (List.getElem?_eq_some_iff.1 hv).1 hv)
    rw [rowsF_length] at r2
    exact r2.keep (Nat.le_refl _) (Nat.le_refl _) fun i cz _ _ hz => hkeep i cz hz
theorem unpclk_any (h : PgH) (L : Pg) (b off m c : Nat) (F : Nat → Ck) (w : World) (hL : L.length ≤ 3) (hF : ∀ j, j < m → Low (F j)) (hc : ∀ j, j < m → w.cell? ⟨b, off + j, none⟩ = some (.int .u64 (enc WC (F j) : Nat))) (hb : b < w.heap.size) (hm : m ≤ 1000) :
    Calls Try.prog 102 #[PgV h L, .slice (some ⟨b, off, none⟩) m c] w fun e w' => ∃ k : IssH, e = .returned (IssV k (rowsF L.length m F)) ∧ Below w.heap.size w w' ∧ w.heap.size ≤ w'.heap.size ∧ IssO w' w.heap.size w'.heap.size k (rowsF L.length m F) := by
  obtain ⟨W, hW⟩ : ∃ W, W = w.alloc (.cells #[.slice h.A L.length h.c] 32) := ⟨_, rfl⟩
  have bW : Below w.heap.size w W := by rw [hW]; go_grown
  have sW : W.heap.size = w.heap.size + 1 := by rw [hW]; simp
  have kW : Bk W w.heap.size 32 #[.slice h.A L.length h.c] := by rw [hW]; exact Bk.new _ _ _
  obtain ⟨i0, hi, hz0, hz1, hz2⟩ := info_parts Try.info25
  have hmk := make_any Try.underlying48 hi hz0 m (by rw [hz2]; omega) (by omega)
  rw [hz1, Nat.mul_one] at hmk
  have start := Lib.hid (show UC w (W.alloc (.cells (madeCells #[.slice none 0 0] m) 25)) (w.heap.size + 1) L.length m F 0 (fun _ => 0) from
    ⟨bW.alloc (by omega) _, ⟨_, by rw [← sW]; exact Bk.new _ _ _, by simp [size_madeCells], fun j hj => absurd hj (by omega)⟩, RowsI.nil _ _ _ _⟩)
  have startB := Lib.hid (show Bk (W.alloc (.cells (madeCells #[.slice none 0 0] m) 25)) w.heap.size 32 #[.slice h.A L.length h.c] from kW.alloc _)
  have HW := Lib.hid hW
  have HF := Lib.hid hF
  have HC := Lib.hid hc
  have HB := Lib.hid bW
  have sWa := Nat.le_of_eq sW
  have sWb := Nat.le_of_eq sW.symm
  clear hz0 hz1 hz2 hi hW bW sW kW hF hc
  go_enter Try.func102, Try.ntmps102
  go_wp2_with fail
  rw [← HW.out]
  go_wp2
  go_loopw [13] (fun i wr => ∃ (k : Nat) (D : Nat → Nat), k ≤ m ∧ i = .int .i64 k ∧ UC w wr (w.heap.size + 1) L.length m F k D ∧ Bk wr w.heap.size 32 #[.slice h.A L.length h.c]) (fun i _ => m - (intOf i).toNat)
  case atStart => exact ⟨0, _, Nat.zero_le _, rfl, start.out, startB.out⟩
  case round =>
    obtain ⟨k, D, hk, rfl, hu, hbx⟩ := hrel
    clear start startB hmk
    by_cases hlt : k < m
    · have c0 : wr.cell? ⟨b, off + k, none⟩ = some (.int .u64 (enc WC (F k) : Nat)) := (hu.bel.cell (p := ⟨b, off + k, none⟩) hb).trans (HC.out k hlt)
      have hz := hu.bel.size
      have hbw : b < wr.heap.size := by omega
      have hki : (k : Int) < (m : Int) := by omega
      have cP := hbx.cell 0
      have lP := hbx.lt
      have HU := Lib.hid hu
      have HX := Lib.hid hbx
      have hE := Lib.hid (entries_any WC 7 0 (F k) L.length wr flc7 (okC (HF.out k hlt)) (show L.length ≤ 3 from hL))
      generalize enc WC (F k) = E at *
      clear hu hbx
      go_wp2_with fail
      refine hE.out.mono ?_
      rintro e w1 ⟨rfl, hcp⟩
      rw [rowC_fld] at hcp
      have hcp2 : CopyV wr w1 3 (ints (rowC L.length (F k))) (ints (rowC L.length (F k))).length := by rw [ints_length, rowC_length]; exact hcp
      obtain ⟨cs, hbk, hs, -⟩ := HU.out.hd
      have hbk1 := hbk.below hcp.1 hbk.lt
      obtain ⟨v0, e0⟩ := hbk1.some_ (i := k) (by omega)
      have q0 := hbk1.free k
      have HN := Lib.hid (HU.out.next hlt (by omega) hcp2)
      have hbx1 := HX.out.below hcp.1 HX.out.lt
      have HX1 := Lib.hid (show Bk (w1.setCell ⟨w.heap.size + 1, k, none⟩ (.slice (some ⟨wr.heap.size, 0, none⟩) L.length L.length)) w.heap.size 32 #[.slice h.A L.length h.c] from
        (Below.heap_setCell w1 ⟨w.heap.size + 1, k, none⟩ _ w.heap.size (by show w.heap.size ≠ w.heap.size + 1; omega)).trans hbx1)
      clear hbk hs hbk1 hcp hcp2 hbx1 cP lP c0
      go_wp2
      go_roundw
      case rel => exact ⟨k + 1, _, by omega, by go_num, HN.out, HX1.out⟩
      case measure => simp [intOf]; omega
    · have hkn : k = m := by omega
      subst hkn
      have HU := Lib.hid hu
      clear hu hbx
      go_wp2
      go_ret
      obtain ⟨cs, hbk, hs, hcs⟩ := HU.out.hd
      have hgl := hbk.lt
      refine ⟨⟨some ⟨w.heap.size + 1, 0, none⟩, k⟩, by show _ = Ending.returned (.slice _ (rowsF L.length k F).length k); rw [rowsF_length]; rfl, HU.out.bel, HU.out.bel.size, ⟨rowsI_own (fun hn => ⟨w.heap.size + 1, cs, rfl, by omega, hgl, hbk, fun j v hj => ?_⟩) HU.out.rows⟩⟩
      have hjl := (List.getElem?_eq_some_iff.1 hj).1
      rw [headsI_length, rowsF_length] at hjl
      rw [headsI_at (rowsF_at hjl), rowC_length] at hj
      injection hj with hj
      rw [← hj]
      exact hcs j hjl
end Go.Proofs.Ytidibnmlceccnaa
namespace Go.Proofs.Ytidibnmlceccnaa
open Go.RowKit Pl Go.BigFrame
set_option maxHeartbeats 4000000
set_option maxRecDepth 100000
set_option linter.unusedVariables false

theorem runE_all {L : Pg} (hL : progB L = true) : ∀ {xs : List Int} {f : Nat → Nat} {l : Evts}, Inv L f → runE L f xs = some l → ∀ e ∈ l, 0 ≤ e.t ∧ e.t < (L.length : Int) ∧ e.x.okb = true := by
  obtain ⟨h31, h32⟩ := prog_len hL
  intro xs
  induction xs with
  | nil =>
    intro f l I h
    unfold runE at h
    injection h with h
    subst h
    intro e he; cases he
  | cons th r ih =>
    intro f l I h
    unfold runE at h
    split at h
    · rename_i hg
      obtain ⟨t, rfl, ht, hc⟩ := goB_parts hg
      rw [Int.toNat_natCast] at h
      cases hq : runE L (stepF L f t) r with
      | none => rw [hq] at h; simp at h
      | some l' =>
        rw [hq] at h
        simp only [Option.map_some, Option.some.injEq] at h
        subst h
        intro e he
        rcases List.mem_cons.1 he with rfl | he
        · refine ⟨?_, ?_, ev_okb hL I ht hc⟩
          · show (0 : Int) ≤ (t : Int); omega
          · show ((t : Nat) : Int) < (L.length : Int); omega
        · exact ih (inv_step hL I ht hc) hq e he
    · cases h
structure EvF (L : Pg) (l : Evts) : Prop where
  h31 : 1 ≤ L.length
  h32 : L.length ≤ 3
  all : ∀ e ∈ l, 0 ≤ e.t ∧ e.t < (L.length : Int) ∧ e.x.okb = true
  few : l.length ≤ 9
  lock : ∀ k e, l[k]? = some e → e.x.k = 7 → ∀ p, stK l k (6 + e.x.a.toNat) p ≤ stK l k e.t.toNat p
theorem ev_f {L : Pg} {xs : List Int} (h : evR L xs = true) : EvF L (evE L xs) := by
  have h9 := (evE_facts (L := L) (xs := xs)).2
  revert h h9
  unfold evR evE evO
  by_cases hp : progB L = true
  · rw [if_pos hp]
    cases hq : runE L (keptF L zeroF L.length) xs with
    | none => intro h; simp [evOk] at h
    | some l =>
      intro _ h9
      obtain ⟨h31, h32⟩ := prog_len hp
      exact ⟨h31, h32, runE_all hp (inv_beg hp) hq, h9, fun k e he hk p => run_lock hp (inv_beg hp) (lock_zero (L := L)) hq k e he hk p⟩
  · rw [if_neg hp]
    intro h; simp [evOk] at h
theorem evE_no {L : Pg} {xs : List Int} (h : evR L xs = false) : evE L xs = [] := by
  revert h
  unfold evR evE
  cases evO L xs with
  | none => intro _; rfl
  | some l => intro h; simp [evOk] at h
theorem EvF.th {L : Pg} {l : Evts} (h : EvF L l) : ∀ e ∈ l, (0 ≤ e.t ∧ e.t < 3) ∧ e.x.okb = true := fun e he => by
  obtain ⟨a, b, c⟩ := h.all e he
  have := h.h32
  exact ⟨⟨a, by omega⟩, c⟩
def clkE (L : Pg) (xs : List Int) : List (List Int) := rowsF L.length (evE L xs).length (ckK (evE L xs))
theorem tot_rowsF (n m : Nat) (F : Nat → Ck) : tot (rowsF n m F) = m * n := by
  induction m with
  | zero => simp [rowsF, tot]
  | succ m ih =>
    rw [rowsF_next]
    unfold tot at ih ⊢
    rw [List.map_append, List.sum_append, ih]
    simp
    rw [Nat.add_mul, Nat.one_mul]
theorem clkE_small {L : Pg} {xs : List Int} (_ : PgS L) (_ : IsS xs) : IssS (clkE L xs) := by
  unfold clkE
  cases h : evR L xs with
  | false => rw [evE_no h]; exact ⟨by simp, by simp [tot, rowsF]⟩
  | true =>
    have F := ev_f h
    have h1 := F.few
    have h2 := F.h32
    refine ⟨by rw [rowsF_length]; omega, ?_⟩
    rw [tot_rowsF]
    have : (evE L xs).length * L.length ≤ 9 * 3 := Nat.mul_le_mul h1 h2
    omega
theorem iclocks_any (h : PgH) (L : Pg) (k : IsH) (xs : List Int) (w : World) (B : Nat) (hP : PgR w B h L) (hV : IsR w B k xs) (hB : B ≤ w.heap.size) (SP : PgS L) (LS : IsS xs) :
    Calls Try.prog 56 #[PgV h L, IsV k xs] w (AnsIss w (clkE L xs) (evR L xs)) := by
  obtain ⟨W, hW⟩ : ∃ W, W = w.alloc (.cells #[.slice h.A L.length h.c] 32) := ⟨_, rfl⟩
  have bW : Below w.heap.size w W := by rw [hW]; go_grown
  have KW := Lib.hid (show Bk W w.heap.size 32 #[.slice h.A L.length h.c] by rw [hW]; exact Bk.new _ _ _)
  have RW := Lib.hid (hP.below bW hB)
  have VW := Lib.hid (hV.below bW hB)
  have BW := Lib.hid bW
  have hBW : B ≤ W.heap.size := Nat.le_trans hB bW.size
  have HW := Lib.hid hW
  have F := Lib.hid (fun (hr : evR L xs = true) => ev_f (L := L) (xs := xs) hr)
  have N := Lib.hid (fun (hr : evR L xs = false) => evE_no (L := L) (xs := xs) hr)
  have hev := ievs_any h L k xs W B RW.out VW.out hBW SP LS
  unfold clkE
  generalize evE L xs = l at hev F N
  generalize evR L xs = r at hev F N
  clear hW bW hP hV
  have cP := KW.out.cell 0
  have lP := KW.out.lt
  go_enter Try.func56, Try.ntmps56
  go_wp2_with fail
  rw [← HW.out]
  go_wp2_with fail
  refine hev.mono ?_
  clear hev cP lP
  rintro e w1 ⟨ke, rfl, hb1, hz1, ho1⟩
  have B1 := Lib.hid (below_on BW.out hb1)
  have O1 := Lib.hid ho1
  have K1 := Lib.hid (KW.out.below hb1 KW.out.lt)
  clear hb1 ho1
  cases r with
  | false =>
    have e0 := N.out rfl
    subst e0
    go_wp2
    go_returns
    exact ⟨⟨none, 0⟩, rfl, B1.out, B1.out.size, ⟨OwnVss.nil _ _ _ _ _ _⟩⟩
  | true =>
    have FF := Lib.hid (F.out rfl)
    have h9 := FF.out.few
    have h32 := FF.out.h32
    clear F N
    go_wp2_with fail
    refine (cwords_any ke l w1 w1.heap.size O1.out.rd (Nat.le_refl _) h9 FF.out.th).mono ?_
    rintro e w2 ⟨rfl, hq2⟩
    have B2 := Lib.hid (below_on B1.out hq2.1)
    have K2 := Lib.hid (K1.out.below hq2.1 K1.out.lt)
    have hl2 := (hq2.cellS (p := 0) (by omega)).2.2
    have HU := Lib.hid (unpclk_any h L w1.heap.size 0 l.length l.length (ckK l) w2 h32 (fun j hj => ck_low (by omega)) (fun j hj => by
      have := (hq2.cellW hj).1
      unfold wK at this
      rw [if_pos hj] at this
      rw [Nat.zero_add]; exact this) (by omega) (by omega))
    have cP := K2.out.cell 0
    have lP := K2.out.lt
    clear hq2
    go_wp2_with fail
    refine HU.out.mono ?_
    rintro e w3 ⟨k3, rfl, hb3, hz3, ho3⟩
    have B3 := Lib.hid (below_on B2.out hb3)
    have O3 := Lib.hid (ho3.keep (lo' := w.heap.size) (hi' := w3.heap.size) B2.out.size (Nat.le_refl _) fun _ _ _ => rfl)
    clear hb3 ho3 cP lP
    go_wp2
    go_returns
    exact ⟨k3, rfl, B3.out, B3.out.size, O3.out⟩
end Go.Proofs.Ytidibnmlceccnaa
namespace Go.Proofs.Ytidibnmlceccnaa
open Go.RowKit Pl Go.BigFrame
set_option maxHeartbeats 4000000
set_option maxRecDepth 100000
set_option linter.unusedVariables false

def setF (D : Nat → Nat) (n v : Nat) : Nat → Nat := fun j => if j = n then v else D j
theorem headsC_snoc (Ls : List (List Int)) (x : List Int) (D C : Nat → Nat) (V c : Nat) : headsC (Ls ++ [x]) (setF D Ls.length V) (setF C Ls.length c) = headsC Ls D C ++ [.slice (some ⟨V, 0, none⟩) x.length c] := by
  unfold headsC setF
  rw [List.length_append, List.length_singleton, List.range_succ, List.map_append]
  congr 1
  · refine List.map_congr_left fun j hj => ?_
    have hj := List.mem_range.1 hj
    have : (Ls ++ [x]).getD j [] = Ls.getD j [] := by simp [List.getD, List.getElem?_append_left hj]
    rw [this, if_neg (by omega), if_neg (by omega)]
  · simp [List.getD]
theorem row_next {w w1 w4 : World} {g cap hi g1 : Nat} {D : Nat → Nat} {Ls : List (List Int)} {x : List Int} {cs : Array Value} {o : Obj} {vs : List Value} {m : Nat} (hbel : Below w.heap.size w w1) (hrows : RowsI w1 w.heap.size hi Ls D) (hhi : hi ≤ g1) (hlo : w.heap.size ≤ hi)
    (own : w1.ownsRow w.heap.size 25 1 (.slice (some ⟨g, 0, none⟩) m cap) m vs) (hb : Bk w1 g1 3 cs) (hc : ∀ (a : Nat) (v : Value), (ints x)[a]? = some v → cs[a]? = some v)
    (grow4 : (w1.alloc o).grownBy w4 (Value.slice (some ⟨g, 0, none⟩) m cap).ownBlock) (hgg : w.heap.size ≤ g) :
    RowsI w4 w.heap.size w4.heap.size (Ls ++ [x]) (setF D Ls.length g1) ∧ Below w.heap.size w w4 := by
  obtain ⟨g0, g1', cu, hcu⟩ := owns_block own (q := g) rfl
  have hz1 := hbel.size
  have hl1 := hb.lt
  have hz4 : w1.heap.size + 1 ≤ w4.heap.size := by have := grow4.size; simpa using this
  have h4 : ∀ z, z < w1.heap.size → z ≠ g → w4.heap[z]? = w1.heap[z]? := fun z hz hne => (grow4.block z (by simp; omega) (fun e => hne (by injection e))).trans (Below.heap_alloc _ o z hz)
  have hB : Below w.heap.size w w4 := (hbel.alloc (by omega) o).grown grow4 (by simp; omega) (fun q hq => by cases hq; omega)
  have hne : ∀ z cz, Bk w1 z 3 cz → z ≠ g := fun z cz hz e => by
    subst e
    unfold Bk at hz hcu
    rw [hcu] at hz
    injection hz with hz
    injection hz with _ hz
    cases hz
  refine ⟨(hrows.keep (Nat.le_refl _) (Nat.le_refl _) fun z cz a b hz => h4 z (by omega) (hne z cz hz)).snoc hhi (by omega) (by omega) ((h4 g1 hl1 (hne g1 cs hb)).trans hb) hc, hB⟩
theorem rowC_zero (n : Nat) : rowC n (fun _ => 0) = List.replicate n 0 := by
  unfold rowC
  apply List.ext_getElem?
  intro i
  by_cases h : i < n
  · simp [h]
  · simp [h]

/-- A table of clocks: its headers in the block g, its rows in blocks of their own; all from lo on and below hi. -/
def TabC (w : World) (lo hi g m n : Nat) (S : Nat → Ck) (D : Nat → Nat) (b : Nat) : Prop :=
  lo ≤ g ∧ g < hi ∧ ∃ cs, Bk w g 25 cs ∧ ∀ i, i < m → lo ≤ D (b + i) ∧ D (b + i) < hi ∧ (∃ c, cs[i]? = some (.slice (some ⟨D (b + i), 0, none⟩) n c)) ∧ ∃ cr, Bk w (D (b + i)) 3 cr ∧ ∀ a, a < n → cr[a]? = some (.int .i64 (S (b + i) a : Nat))
theorem TabC.keep {w w' : World} {lo hi hi' g m n : Nat} {S : Nat → Ck} {D : Nat → Nat} {b : Nat} (h : TabC w lo hi g m n S D b) (hh : hi ≤ hi') (hk : ∀ z, lo ≤ z → z < hi → w'.heap[z]? = w.heap[z]?) : TabC w' lo hi' g m n S D b := by
  obtain ⟨h0, h1, cs, hb, hr⟩ := h
  refine ⟨h0, by omega, cs, (hk g h0 h1).trans hb, fun i hi' => ?_⟩
  obtain ⟨a1, a2, hc, cr, hbr, hcr⟩ := hr i hi'
  exact ⟨a1, by omega, hc, cr, (hk _ a1 a2).trans hbr, hcr⟩
theorem TabC.head {w : World} {lo hi g m n : Nat} {S : Nat → Ck} {D : Nat → Nat} {b i : Nat} (h : TabC w lo hi g m n S D b) (hi' : i < m) : ∃ c, w.cell? ⟨g, i, none⟩ = some (.slice (some ⟨D (b + i), 0, none⟩) n c) ∧ w.frozen? ⟨g, i, none⟩ = false := by
  obtain ⟨h0, h1, cs, hb, hr⟩ := h
  obtain ⟨a1, a2, ⟨c, hc⟩, _⟩ := hr i hi'
  exact ⟨c, (hb.cell i).trans hc, hb.free i⟩
theorem TabC.row {w : World} {lo hi g m n : Nat} {S : Nat → Ck} {D : Nat → Nat} {b i : Nat} (h : TabC w lo hi g m n S D b) (hi' : i < m) : Vs w hi (some ⟨D (b + i), 0, none⟩) (ints (rowC n (S (b + i)))) := by
  obtain ⟨h0, h1, cs, hb, hr⟩ := h
  obtain ⟨a1, a2, hc, cr, hbr, hcr⟩ := hr i hi'
  intro _
  refine ⟨D (b + i), 0, rfl, a2, fun j v hj => ?_⟩
  have hjl := (List.getElem?_eq_some_iff.1 hj).1
  rw [ints_length, rowC_length] at hjl
  have e : (ints (rowC n (S (b + i))))[j]? = some (.int .i64 (S (b + i) j : Nat)) := by simp [ints, rowC, hjl]
  rw [e] at hj
  injection hj with hj
  rw [← hj, Nat.zero_add]
  exact (hbr.cell j).trans (hcr j hjl)
theorem szeros_any (m n : Nat) (w : World) (hm : m ≤ 3) (hn : n ≤ 3) (M N : Int) (hM : M = (m : Int)) (hN : N = (n : Int)) (hn1 : 1 ≤ n) :
    Calls Try.prog 142 #[.int .i64 M, .int .i64 N] w fun e w' => ∃ (g cap : Nat) (D : Nat → Nat), e = .returned (.slice (some ⟨g, 0, none⟩) m cap) ∧ m ≤ cap ∧ cap ≤ maxLen ∧ Below w.heap.size w w' ∧ TabC w' w.heap.size w'.heap.size g m n (fun _ => fun _ => 0) D 0 ∧ ∀ i j, i < j → j < m → D i < D j := by
  subst hM hN
  obtain ⟨i1, hi1, jz0, jz1, jz2⟩ := info_parts Try.info25
  have start : Hid ((w.alloc (.cells #[] 25)).ownsRow w.heap.size 25 1 (.slice (some ⟨w.heap.size, 0, none⟩) 0 0) 0 []) := Lib.hid (World.ownsRow_made w #[] 0 (Nat.le_refl _) (by decide) (by simp))
  go_enter Try.func142, Try.ntmps142
  go_wp2
  go_loopw [5, 6] (fun v i wr => ∃ (k g cap : Nat) (D C : Nat → Nat), k ≤ m ∧ i = .int .i64 k ∧ v = .slice (some ⟨g, 0, none⟩) k cap ∧ w.heap.size ≤ g ∧ wr.ownsRow w.heap.size 25 1 (.slice (some ⟨g, 0, none⟩) k cap) k (headsC (rowsF n k (fun _ => fun _ => 0)) D C) ∧ RowsI wr w.heap.size wr.heap.size (rowsF n k (fun _ => fun _ => 0)) D ∧ Below w.heap.size w wr) (fun _ i _ => m - (intOf i).toNat)
  case atStart => exact ⟨0, _, 0, fun _ => 0, fun _ => 0, Nat.zero_le _, rfl, rfl, Nat.le_refl _, start.out, RowsI.nil _ _ _ _, (Below.refl _ _).alloc (Nat.le_refl _) _⟩
  case round =>
    obtain ⟨k, g, cap, D, C, hk, rfl, rfl, hgg, hown, hrows, hbel⟩ := hrel
    clear start
    have hz := hbel.size
    by_cases hlt : k < m
    · have hkm : (k : Int) < (m : Int) := by omega
      have HF := Lib.hid (fill_any 0 n (n : Int) rfl wr (by omega))
      have Hown := Lib.hid hown
      have Hrows := Lib.hid hrows
      have Hb := Lib.hid hbel
      clear hown hrows hbel
      go_wp2_with fail
      refine HF.out.mono ?_
      rintro e w1 ⟨g1, c1, rfl, hc1, hc2, hg1, hb1, ho1⟩
      rw [List.length_replicate] at hc1 ⊢
      obtain ⟨gx, cs, hA, -, hg1l, hbk, hcs⟩ := ho1 (by rw [ints_length, List.length_replicate]; omega)
      injection hA with hA
      injection hA with hA
      subst hA
      rw [← rowC_zero] at hcs
      have Hown1 := Lib.hid (Hown.out.kept (grown_of_below hb1 none) (by simp [Value.ownBlock]))
      have Hrows1 := Lib.hid (Hrows.out.keep (w' := w1) (Nat.le_refl _) (Nat.le_refl _) fun i _ _ h2 _ => hb1.block i h2)
      have Hb1 := Lib.hid (below_on Hb.out hb1)
      have Hbk := Lib.hid hbk
      have Hcs := Lib.hid hcs
      have hz1 := hb1.size
      clear hb1 ho1 hbk hcs HF
      go_wp2_with (at_builtin; refine wpList_append_own _ rfl (.tmp 13) (.tmp 16) 48 rfl w.heap.size 25 i1 _ 1 24 Try.underlying48 hi1 jz0 jz1 jz2 rfl (by decide) _ k _ rfl (Hown1.out.alloc _) ⟨_, 0, none⟩ 1 1 [.slice (some ⟨g1, 0, none⟩) n c1] rfl rfl (cell1_new _ _ _) (by intro u hu; simp at hu; subst hu; rfl) (by unfold maxLen; omega) (by omega) (by simp; omega) ?_; intro v' w3 own3 grow3 _; obtain ⟨g3, cap3, rfl, hg3, hlt3⟩ := own3.form (by omega); have Own3 := Lib.hid own3; have N3 := Lib.hid (row_next Hb1.out Hrows1.out hg1 hz Hown1.out Hbk.out Hcs.out grow3 hgg); clear own3 grow3)
      go_roundw
      case rel => exact ⟨k + 1, g3, cap3, setF D k g1, setF C k c1, by omega, by go_num, rfl, hg3, by
        rw [rowsF_next]
        have h1 := headsC_snoc (rowsF n k (fun _ => fun _ => 0)) (rowC n (fun _ => 0)) D C g1 c1
        rw [rowsF_length, rowC_length] at h1
        rw [h1]; exact Own3.out, by
        have h2 := N3.out.1
        rw [rowsF_length] at h2
        rw [rowsF_next]; exact h2, N3.out.2⟩
      case measure => simp [intOf]; omega
    · have hkl : k = m := by omega
      subst hkl
      have Hown := Lib.hid hown
      have Hrows := Lib.hid hrows
      clear hown hrows
      go_wp2
      go_ret
      obtain ⟨q1, q2⟩ := own_cap Hown.out
      refine ⟨g, cap, D, rfl, q1, q2, hbel, ?_, fun i j h1 h2 => Hrows.out.2 i j h1 (by rw [rowsF_length]; exact h2)⟩
      obtain ⟨o1, o2, cu, hcu⟩ := owns_block Hown.out (q := g) rfl
      refine ⟨hgg, Bk.lt hcu, ?_⟩
      by_cases hk0 : 0 < k
      · obtain ⟨gx, cs, hA, h0, h1, hb, hx⟩ := own_vs Hown.out rfl (by rw [headsC_length, rowsF_length]; exact hk0)
        injection hA with hA
        injection hA with hA
        subst hA
        refine ⟨cs, hb, fun i hi' => ?_⟩
        have e1 := rowsF_at (n := n) (F := fun _ => fun _ => 0) hi'
        obtain ⟨a1, a2, cr, hbr, hcr⟩ := Hrows.out.1 i _ e1
        rw [Nat.zero_add]
        refine ⟨a1, a2, ⟨C i, ?_⟩, cr, hbr, fun a ha => ?_⟩
        · have := hx i _ (headsC_at e1)
          rwa [rowC_length] at this
        · exact hcr a _ (by simp [ints, rowC, ha])
      · exact ⟨cu, hcu, fun i hi' => absurd hi' (by omega)⟩
end Go.Proofs.Ytidibnmlceccnaa
