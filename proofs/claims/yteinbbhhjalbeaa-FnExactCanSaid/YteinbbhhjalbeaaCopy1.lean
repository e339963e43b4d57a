/-
  The contract of the reference model's l1Copy: a copy in memory of the call's own.
-/
import Derived.Test.YteinbbhhjalbeaaWithout
import Derived.Test.YteinbbhhjalbeaaSpecOk
import Derived.Deep.AppendLies
namespace Go.Proofs.Yteinbbhhjalbeaa
open Go.RowKit Pl
set_option maxHeartbeats 400000
set_option linter.unusedVariables false

/-- The headers of threads of the call's own. -/
def HeadsIn (w : World) (lo hi : Nat) (hs : List Value) (L : List (List Sm)) : Prop :=
  hs.length = L.length ∧ ∀ (i : Nat) (xs : List Sm), L[i]? = some xs → ∃ Ai ci, hs[i]? = some (.slice Ai xs.length ci) ∧ xs.length ≤ ci ∧ ci ≤ maxLen ∧ (Ai = none → ci = 0) ∧ OwnRow w lo hi Ai xs
theorem HeadsIn.keep {w w' : World} {lo hi lo' hi' : Nat} {hs : List Value} {L : List (List Sm)} (h : HeadsIn w lo hi hs L) (hl : lo' ≤ lo) (hh : hi ≤ hi') (hk : ∀ i cs, lo ≤ i → i < hi → Bk w i 27 cs → w'.heap[i]? = w.heap[i]?) : HeadsIn w' lo' hi' hs L := by
  refine ⟨h.1, fun i xs hi => ?_⟩
  obtain ⟨Ai, ci, g0, g1, g2, g3, g4⟩ := h.2 i xs hi
  refine ⟨Ai, ci, g0, g1, g2, g3, fun hn => ?_⟩
  obtain ⟨g, cs, hA, h0, hg, hb, hx⟩ := g4 hn
  exact ⟨g, cs, hA, by omega, by omega, (hk g cs h0 hg hb).trans hb, hx⟩
theorem HeadsIn.nil (w : World) (lo hi : Nat) : HeadsIn w lo hi [] [] := ⟨rfl, fun i xs hi => by simp at hi⟩

theorem cells_one (x : Sm) : ∀ u ∈ x.cells, u.oneCell' = true := by
  intro u hu
  simp [Sm.cells] at hu
  rcases hu with rfl | rfl | rfl | rfl | rfl <;> rfl
theorem flat_snoc {xs : List Sm} {m : Nat} {x : Sm} (h : xs[m]? = some x) : flat (xs.take (m + 1)) = flat (xs.take m) ++ x.cells := by
  rw [List.take_add_one, h, flat_append]
  simp [flat]
theorem cells_new (w : World) (x : Sm) : ∀ j u, x.cells[j]? = some u → (w.alloc (.cells #[.int .i64 x.k, .int .i64 x.a, .int .i64 x.b, .int .i64 x.c, .bool x.s] 27)).cell? ((⟨w.heap.size, 0, none⟩ : Addr).add j) = some u := by
  intro j u hj
  rw [addr_add', Nat.zero_add]
  have := (Bk.new w #[.int .i64 x.k, .int .i64 x.a, .int .i64 x.b, .int .i64 x.c, .bool x.s] 27).cell j
  rw [this, ← hj]
  simp [Sm.cells]

/-- What l1Copy has come to behind k threads: block W.heap.size is the copy. -/
def CpO (W wr : World) (L : List (List Sm)) (k : Nat) : Prop :=
  Below W.heap.size W wr ∧ ∃ A c hs, Bk wr W.heap.size 25 #[.slice A k c] ∧ wr.ownsRow (W.heap.size + 1) 37 1 (.slice A k c) k hs ∧ HeadsIn wr (W.heap.size + 1) wr.heap.size hs (L.take k)

theorem grown_of_below {w w' : World} (h : Below w.heap.size w w') (row : Option Nat) : w.grownBy w' row := ⟨h.os, h.tape, h.output, h.size, fun i hi _ => h.block i hi⟩
theorem owns_cap {w : World} {base size n cap g : Nat} {e : TypeId} {zs : List Value} (h : w.ownsRow base e size (.slice (some ⟨g, 0, none⟩) n cap) n zs) : n ≤ cap ∧ cap ≤ maxLen ∧ base ≤ g ∧ ∃ cur, Bk w g e cur := by
  rcases h.2 with ⟨h0, _⟩ | ⟨g', cap', cur, hv, hb, hh, h1, h2, _⟩
  · simp at h0
  · simp only [Value.slice.injEq, Option.some.injEq, Addr.mk.injEq, and_true, true_and] at hv
    obtain ⟨rfl, rfl⟩ := hv
    exact ⟨h1, h2, hb, cur, hh⟩
theorem owns_block {w : World} {base size n : Nat} {e : TypeId} {v : Value} {zs : List Value} (h : w.ownsRow base e size v n zs) {q : Nat} (hq : some q = v.ownBlock) : base ≤ q ∧ q < w.heap.size ∧ ∃ cur, Bk w q e cur := by
  rcases h.2 with ⟨rfl, _⟩ | ⟨g', cap', cur, rfl, hb, hh, _⟩
  · simp [Value.ownBlock] at hq
  · simp [Value.ownBlock] at hq
    subst hq
    exact ⟨hb, Bk.lt hh, cur, hh⟩
theorem out_kept {W wo w2 w4 : World} {k co : Nat} {Ao : Option Addr} {hs : List Value} {o : Obj} {cs : Array Value} {t : TypeId} (hbo : Bk wo W.heap.size t cs)
    (howno : wo.ownsRow (W.heap.size + 1) 37 1 (.slice Ao k co) k hs) (hb2 : Below wo.heap.size wo w2) (grow4 : (w2.alloc o).grownBy w4 (Value.slice Ao k co).ownBlock) : Bk w4 W.heap.size t cs := by
  have hlt := hbo.lt
  have hz2 := hb2.size
  have hrow : ∀ q, (Value.slice Ao k co).ownBlock = some q → W.heap.size + 1 ≤ q := fun q hq => (owns_block howno hq.symm).1
  exact ((grow4.block _ (by simp; omega) (fun e => by have := hrow _ e.symm; omega)).trans (Below.heap_alloc w2 o _ (by omega))).trans (hbo.below hb2 hlt)
theorem cpo_next {W wo w2 w4 : World} {L : List (List Sm)} {k g cap g4 cap4 co : Nat} {Ao : Option Addr} {hs : List Value} {xs : List Sm} {o : Obj} (h0 : Below W.heap.size W wo) (hbo : Bk wo W.heap.size 25 #[.slice Ao k co])
    (howno : wo.ownsRow (W.heap.size + 1) 37 1 (.slice Ao k co) k hs) (hh : HeadsIn wo (W.heap.size + 1) wo.heap.size hs (L.take k)) (hb2 : Below wo.heap.size wo w2)
    (hown : w2.ownsRow wo.heap.size 27 5 (.slice (some ⟨g, 0, none⟩) xs.length cap) xs.length (flat xs))
    (own4 : w4.ownsRow (W.heap.size + 1) 37 1 (.slice (some ⟨g4, 0, none⟩) (k + 1) cap4) (k + 1) (hs ++ [.slice (some ⟨g, 0, none⟩) xs.length cap]))
    (grow4 : (w2.alloc o).grownBy w4 (Value.slice Ao k co).ownBlock) (hx : L[k]? = some xs) : CpO W (w4.setCell ⟨W.heap.size, 0, none⟩ (.slice (some ⟨g4, 0, none⟩) (k + 1) cap4)) L (k + 1) := by
  have hk : k < L.length := (List.getElem?_eq_some_iff.1 hx).1
  have hz1 := h0.size
  have hz2 := hb2.size
  have hz4 : w2.heap.size + 1 ≤ w4.heap.size := by have := grow4.size; simpa using this
  have hlt := hbo.lt
  obtain ⟨hc1, hc2, hgb, cur, hcur⟩ := owns_cap hown
  have hgl := hcur.lt
  have hrow : ∀ q, (Value.slice Ao k co).ownBlock = some q → W.heap.size + 1 ≤ q ∧ q < wo.heap.size ∧ ∃ cu, Bk wo q 37 cu := fun q hq => owns_block howno hq.symm
  have hbel : Below W.heap.size W w4 := ((below_on h0 hb2).alloc (by omega) o).grown grow4 (by simp; omega) (fun q hq => by have := (hrow q hq).1; omega)
  have hset : ∀ i, i ≠ W.heap.size → (w4.setCell ⟨W.heap.size, 0, none⟩ (.slice (some ⟨g4, 0, none⟩) (k + 1) cap4)).heap[i]? = w4.heap[i]? := fun i hi => Below.heap_setCell w4 ⟨W.heap.size, 0, none⟩ _ i hi
  have h24 : ∀ i, i < w2.heap.size → some i ≠ (Value.slice Ao k co).ownBlock → w4.heap[i]? = w2.heap[i]? := fun i hi hne => (grow4.block i (by simp; omega) hne).trans (Below.heap_alloc w2 o i hi)
  have hbo4 : Bk w4 W.heap.size 25 #[.slice Ao k co] := (h24 _ (by omega) (fun e => by have := (hrow _ e.symm).1; omega)).trans (hbo.below hb2 hlt)
  have hlen : hs.length = k := by rw [hh.1, List.length_take]; omega
  refine ⟨hbel.setCell (Nat.le_refl _) _, _, _, _, by simpa using hbo4.set 0 (.slice (some ⟨g4, 0, none⟩) (k + 1) cap4), ownsRow_setCell_below own4 (by show W.heap.size < W.heap.size + 1; omega) _, ?_, ?_⟩
  · simp [hlen]; omega
  · intro i ys hi
    have hsz : (w4.setCell ⟨W.heap.size, 0, none⟩ (.slice (some ⟨g4, 0, none⟩) (k + 1) cap4)).heap.size = w4.heap.size := World.size_setCell ..
    rw [hsz]
    rw [List.getElem?_take] at hi
    split at hi
    · rename_i hik
      by_cases e : i = k
      · subst e
        obtain rfl : xs = ys := by rw [hx] at hi; injection hi
        refine ⟨some ⟨g, 0, none⟩, cap, by rw [List.getElem?_append_right (by omega), hlen]; simp, hc1, hc2, (fun e0 => by cases e0), ?_⟩
        exact (own_row hown hgb).keep (by omega) (by omega) fun j hj hj2 => (hset j (by omega)).trans (h24 j (by omega) (fun e => by have := (hrow _ e.symm).2.1; omega))
      · obtain ⟨Ai, ci, g0, g1, g2, g3, g5⟩ := hh.2 i ys (by rw [List.getElem?_take, if_pos (by omega)]; exact hi)
        refine ⟨Ai, ci, by rw [List.getElem?_append_left (by omega)]; exact g0, g1, g2, g3, fun hn => ?_⟩
        obtain ⟨q, cs, hA, h5, h6, h7, h8⟩ := g5 hn
        refine ⟨q, cs, hA, h5, by omega, ?_, h8⟩
        refine ((hset q (by omega)).trans ((h24 q (by omega) (fun e => ?_)).trans (hb2.block q h6))).trans h7
        obtain ⟨_, _, cu, hcu⟩ := hrow q e.symm
        unfold Bk at hcu h7
        rw [hcu] at h7
        injection h7 with h7
        injection h7 with _ h7
        cases h7
    · cases hi
theorem cell_new1 (w : World) (v : Value) (t : TypeId) : ∀ j u, [v][j]? = some u → (w.alloc (.cells #[v] t)).cell? ((⟨w.heap.size, 0, none⟩ : Addr).add j) = some u := by
  intro j u hj
  rw [addr_add', Nat.zero_add]
  have := (Bk.new w #[v] t).cell j
  rw [this, ← hj]
  simp

/-- What the reference model's copy comes to. -/
def CopyI (w : World) (L : List (List Sm)) (e : Ending) (w' : World) : Prop :=
  ∃ A c hs, e = .returned (.agg #[.slice A L.length c]) ∧ Below w.heap.size w w' ∧ w'.ownsRow w.heap.size 37 1 (.slice A L.length c) L.length hs ∧ HeadsIn w' w.heap.size w'.heap.size hs L

theorem l1Copy_any (A : Option Addr) (L : List (List Sm)) (c : Nat) (w : World) (B : Nat) (h : Rows2 w B A L) (hB : B ≤ w.heap.size) (hm : L.length ≤ 1048576) (hm2 : Hid (∀ xs ∈ L, xs.length ≤ 1048576)) :
    Calls Try.prog 74 #[.agg #[.slice A L.length c]] w (CopyI w L) := by
  obtain ⟨i0, hi, iz0, iz1, iz2⟩ := info_parts Try.info27
  obtain ⟨i1, hi1, jz0, jz1, jz2⟩ := info_parts Try.info37
  obtain ⟨W, hW⟩ : ∃ W, W = (w.alloc (.cells #[.slice A L.length c] 25)).alloc (.cells #[.slice none 0 0] 25) := ⟨_, rfl⟩
  have bW : Below w.heap.size w W := by rw [hW]; go_grown
  have sW : W.heap.size = w.heap.size + 1 + 1 := by rw [hW]; simp
  have k1 : Bk W (w.heap.size + 1) 25 #[.slice none 0 0] := by
    rw [hW]; have := Bk.new (w.alloc (.cells #[.slice A L.length c] 25)) #[.slice none 0 0] 25
    rwa [World.size_alloc] at this
  have k0 : Bk W w.heap.size 25 #[.slice A L.length c] := by
    rw [hW]; exact (Bk.new w #[.slice A L.length c] 25).alloc _
  have BW := Lib.hid bW
  have SW := Lib.hid sW
  have K1 := Lib.hid k1
  have K0 := Lib.hid k0
  have HR := Lib.hid (h.below bW hB)
  have HBW : Hid (B ≤ W.heap.size) := Lib.hid (Nat.le_trans hB bW.size)
  have HW := Lib.hid hW
  have start : Hid (CpO W (W.alloc (.cells #[.slice none 0 0] 25)) L 0) := Lib.hid ⟨(Below.refl _ _).alloc (Nat.le_refl _) _, none, 0, [], Bk.new _ _ _, World.ownsRow_nil .., by rw [List.take_zero]; exact HeadsIn.nil _ _ _⟩
  clear hW bW sW k0 k1 h
  go_enter Try.func74, Try.ntmps74
  go_wp2
  rw [← HW.out]
  go_loopw [4] (fun i wr => ∃ k : Nat, k ≤ L.length ∧ i = .int .i64 k ∧ CpO W wr L k) (fun i _ => L.length - (intOf i).toNat)
  case atStart => exact ⟨0, Nat.zero_le _, rfl, start.out⟩
  case round =>
    obtain ⟨k, hk, rfl, hcp⟩ := hrel
    clear start
    have hz := hcp.1.size
    have hbox := (K0.out.below hcp.1 K0.out.lt).cell 0
    simp at hbox
    have hgw : w.heap.size < wr.heap.size := by have := SW.out; omega
    by_cases hlt : k < L.length
    · obtain ⟨b, off, xs, Ai, ci, rfl, hbB, hx, hx0, hlx, hmx, hA0, hrow⟩ := (HR.out.below hcp.1 HBW.out).cap_ hlt
      have hbw : b < wr.heap.size := by have := HBW.out; omega
      have hlen : xs.length ≤ 1048576 := hm2.out xs (List.mem_of_getElem? hx)
      have Hx := Lib.hid hx
      have Hcp := Lib.hid hcp
      have start2 : Hid ((wr.alloc (.cells #[] 27)).ownsRow wr.heap.size 27 5 (.slice (some ⟨wr.heap.size, 0, none⟩) 0 0) 0 (flat (xs.take 0))) := Lib.hid (World.ownsRow_made wr #[] 0 (Nat.le_refl _) (by decide) (by simp))
      have HBr : Hid (B ≤ wr.heap.size) := Lib.hid (Nat.le_trans HBW.out hz)
      clear hx hcp hmx hA0
      go_wp2_with fail
      obtain ⟨wo, rfl⟩ : ∃ wo : World, wo = wr := ⟨_, rfl⟩
      go_loopw [5, 6] (fun l j w2 => ∃ m g cap : Nat, m ≤ xs.length ∧ j = .int .i64 m ∧ l = .slice (some ⟨g, 0, none⟩) m cap ∧ wo.heap.size ≤ g ∧ w2.ownsRow wo.heap.size 27 5 (.slice (some ⟨g, 0, none⟩) m cap) m (flat (xs.take m)) ∧ Below wo.heap.size wo w2) (fun _ j _ => xs.length - (intOf j).toNat)
      case atStart => exact ⟨0, _, 0, Nat.zero_le _, rfl, rfl, Nat.le_refl _, start2.out, (Below.refl _ _).alloc (Nat.le_refl _) _⟩
      case round =>
        obtain ⟨m, g, cap, hmm, rfl, rfl, hgg, hown, hb2⟩ := hrel
        clear start2
        have hbox2 := (hb2.cell (p := ⟨w.heap.size, 0, none⟩) hgw).trans hbox
        have hx02 := (hb2.cell (p := ⟨b, off + k, none⟩) hbw).trans hx0
        have hz2 := hb2.size
        by_cases hlm : m < xs.length
        · obtain ⟨b', off', x, rfl, hb', hx', -, hx0', hx1', hx2', hx3', hx4'⟩ := (hrow.below hb2 HBr.out).at_ hlm
          have Hx' := Lib.hid hx'
          have Hown := Lib.hid hown
          have Hb2 := Lib.hid hb2
          clear hx' hbox hx0 hown hb2
          go_wp2_with (at_builtin; refine wpList_append_own _ rfl (.tmp 26) (.tmp 35) 37 rfl wo.heap.size 27 i0 _ 5 40 Try.underlying37 hi iz0 iz1 iz2 rfl (by decide) _ m _ rfl (Hown.out.alloc _) ⟨_, 0, none⟩ 1 1 x.cells rfl rfl (cells_new _ x) (cells_one x) (by unfold maxLen; omega) (by omega) (by simp; omega) ?_; intro v' w3 own3 grow3 _; obtain ⟨g3, cap3, rfl, hg3, hlt3⟩ := own3.form (by omega); have Own3 := Lib.hid own3; have B3 := Lib.hid ((Hb2.out.alloc hz2 _).grown grow3 (by simp; omega) (by intro q hq; cases hq; exact hgg)); clear own3 grow3)
          go_roundw
          case rel => exact ⟨m + 1, g3, cap3, by omega, by go_num, rfl, hg3, by rw [flat_snoc Hx'.out]; exact Own3.out, B3.out⟩
          case measure => simp [intOf]; omega
        · have hml : m = xs.length := by omega
          subst hml
          obtain ⟨-, Ao, co, hs, hbo, howno, hheads⟩ := Hcp.out
          have hlw := hbo.lt
          have kout := hbo.below hb2 hlw
          have cout := kout.cell 0
          have fout := kout.free 0
          rw [SW.out] at cout fout
          simp at cout
          have hown' : _ := howno.kept (grown_of_below hb2 none) (by cases hv : (Value.slice Ao k co).ownBlock <;> simp)
          rw [List.take_length] at hown
          have Hown := Lib.hid hown
          have Howno := Lib.hid howno
          have Hown' := Lib.hid hown'
          have Hb2 := Lib.hid hb2
          have Hbo := Lib.hid hbo
          have Hheads := Lib.hid hheads
          have Hlw := Lib.hid hlw
          clear hown howno hown' hbo hheads hb2 kout hbox hx0 hlw
          go_wp2_with (at_builtin; refine wpList_append_own _ rfl (.tmp 38) (.tmp 40) 23 rfl (W.heap.size + 1) 37 i1 _ 1 24 Try.underlying23 hi1 jz0 jz1 jz2 rfl (by decide) _ k hs rfl (Hown'.out.alloc _) ⟨_, 0, none⟩ 1 1 [.slice (some ⟨g, 0, none⟩) xs.length cap] rfl rfl (cell_new1 _ _ _) (by intro u hu; simp at hu; subst hu; rfl) (by unfold maxLen; omega) (by omega) (by have := Hlw.out; simp; omega) ?_; intro v' w4 own4 grow4 _; obtain ⟨g4, cap4, rfl, hg4, hlt4⟩ := own4.form (by omega); have kout4 := out_kept Hbo.out Howno.out Hb2.out grow4; have cout4 := kout4.cell 0; have fout4 := kout4.free 0; rw [SW.out] at cout4 fout4; simp at cout4; have Next := Lib.hid (cpo_next Hcp.out.1 Hbo.out Howno.out Hheads.out Hb2.out Hown.out own4 grow4 Hx.out); clear own4 grow4 kout4)
          go_roundw
          case rel => exact ⟨k + 1, by omega, by go_num, by have := Next.out; rw [SW.out] at this; exact this⟩
          case measure => simp [intOf]; omega
    · have hkl : k = L.length := by omega
      subst hkl
      obtain ⟨hbel, Ao, co, hs, hbo, howno, hheads⟩ := hcp
      rw [List.take_length] at hheads
      have cout := hbo.cell 0
      rw [SW.out] at cout
      simp at cout
      have kr := K1.out.below hbel K1.out.lt
      have cr := kr.cell 0
      have fr := kr.free 0
      have hres := (kr.set 0 (.slice Ao L.length co)).cell 0
      simp at cr
      have Hbel := Lib.hid (below_on BW.out hbel)
      have Howno := Lib.hid howno
      have Hheads := Lib.hid hheads
      clear hbel hbo howno hheads kr
      go_wp2
      refine bodyPost_ret (v := .agg #[.slice Ao L.length co]) (by simp [results, Try.results74, hres, go_sem]) rfl ?_
      have hs2 := SW.out
      refine ⟨Ao, co, hs, rfl, Hbel.out.setCell (by show _ ≤ w.heap.size + 1; omega) _, ?_, ?_⟩
      · exact Joins.ownsRow_le (ownsRow_setCell_below Howno.out (by show w.heap.size + 1 < _; omega) _) (by omega)
      · refine Hheads.out.keep (by omega) (by simp only [World.size_setCell]; exact Nat.le_refl _) fun i cs hi _ _ => Below.heap_setCell _ _ _ i (by show i ≠ w.heap.size + 1; omega)
end Go.Proofs.Yteinbbhhjalbeaa
