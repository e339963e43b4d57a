/-
  The contract of the program's edited: a new program of the call's own, one thread of which is spliced.
-/
import Derived.Test.YteinbbhhjalbeaaSplice
namespace Go.Proofs.Yteinbbhhjalbeaa
open Go.RowKit Pl
set_option maxHeartbeats 400000
set_option linter.unusedVariables false

/-- What a program of the call's own has come to behind k rounds, each thread in a new block. -/
def BuildS (w wr : World) (E : List (List Sm)) (k : Nat) : Prop :=
  Below w.heap.size w wr ∧ ∃ (cs : Array Value) (D C : Nat → Nat), Bk wr w.heap.size 37 cs ∧ cs.size = E.length ∧
    (∀ (i : Nat) (xs : List Sm), i < k → E[i]? = some xs → cs[i]? = some (.slice (some ⟨D i, 0, none⟩) xs.length (C i)) ∧ xs.length ≤ C i ∧ C i ≤ maxLen ∧ D i < wr.heap.size ∧ OwnRow wr (w.heap.size + 1) wr.heap.size (some ⟨D i, 0, none⟩) xs) ∧
    ∀ i j, i < j → j < k → D i < D j
theorem BuildS.next {w wr w1 : World} {E : List (List Sm)} {k c : Nat} {xs : List Sm} (h : BuildS w wr E k) (hb1 : Below wr.heap.size wr w1) (hnew : wr.heap.size < w1.heap.size)
    (hdone : OwnRow w1 wr.heap.size (wr.heap.size + 1) (some ⟨wr.heap.size, 0, none⟩) xs) (hc1 : xs.length ≤ c) (hc2 : c ≤ maxLen) (hx : E[k]? = some xs) :
    BuildS w (w1.setCell ⟨w.heap.size, k, none⟩ (.slice (some ⟨wr.heap.size, 0, none⟩) xs.length c)) E (k + 1) := by
  obtain ⟨h0, cs, D, C, hbk, hsz, hc0, hd⟩ := h
  have hk : k < E.length := (List.getElem?_eq_some_iff.1 hx).1
  have hlt := hbk.lt
  have hz := hb1.size
  have hset : ∀ i, i ≠ w.heap.size → (w1.setCell ⟨w.heap.size, k, none⟩ (.slice (some ⟨wr.heap.size, 0, none⟩) xs.length c)).heap[i]? = w1.heap[i]? := fun i hi => Below.heap_setCell w1 ⟨w.heap.size, k, none⟩ _ i hi
  have hs2 : (w1.setCell ⟨w.heap.size, k, none⟩ (.slice (some ⟨wr.heap.size, 0, none⟩) xs.length c)).heap.size = w1.heap.size := World.size_setCell ..
  refine ⟨(below_on h0 hb1).setCell (Nat.le_refl _) _, _, fun i => if i = k then wr.heap.size else D i, fun i => if i = k then c else C i, (hbk.below hb1 hlt).set _ _, by simpa using hsz, ?_, ?_⟩
  · intro i ys hi hy
    by_cases e : i = k
    · subst e
      obtain rfl : xs = ys := by rw [hx] at hy; injection hy
      refine ⟨by simp [hsz, hk], by simp [hc1], by simp [hc2], by simp [hs2, hnew], ?_⟩
      simp only [if_true]
      exact hdone.keep (by omega) (by omega) fun j hj _ => hset j (by omega)
    · obtain ⟨g0, g01, g02, g1, g2⟩ := hc0 i ys (by omega) hy
      simp only [if_neg e]
      refine ⟨?_, g01, g02, ?_, ?_⟩
      · rw [Array.getElem?_setIfInBounds_ne (by omega)]; exact g0
      · omega
      · exact g2.keep (by omega) (by omega) fun j hj hj2 => (hset j (by omega)).trans (hb1.block j hj2)
  · intro i j hij hj
    have hDi : D i < wr.heap.size := by
      have : i < E.length := by omega
      exact (hc0 i _ (by omega) (List.getElem?_eq_getElem this)).2.2.2.1
    by_cases e : j = k
    · have e' : i ≠ k := by omega
      simp only [if_pos e, if_neg e']
      exact hDi
    · have e' : i ≠ k := by omega
      simp only [if_neg e, if_neg e']
      exact hd i j hij (by omega)
theorem BuildS.done {w wr : World} {E : List (List Sm)} (h : BuildS w wr E E.length) : OwnRows2 wr w.heap.size wr.heap.size (some ⟨w.heap.size, 0, none⟩) E := fun _ => by
  obtain ⟨_, cs, D, C, hbk, _, hc, hd⟩ := h
  refine ⟨_, cs, fun i => some ⟨D i, 0, none⟩, C, rfl, Nat.le_refl _, hbk.lt, hbk, ?_, ?_⟩
  · intro i xs hi
    have hlt := (List.getElem?_eq_some_iff.1 hi).1
    obtain ⟨g0, g01, g02, _, g2⟩ := hc i xs hlt hi
    exact ⟨g0, g01, g02, (fun e0 => by cases e0), g2.keep (by omega) (Nat.le_refl _) fun _ _ _ => rfl⟩
  · intro i j xs ys hij hi hj _ _ e
    have := hd i j hij (List.getElem?_eq_some_iff.1 hj).1
    injection e with e
    injection e with e
    omega
theorem splice_zero (xs : List Sm) : splice xs 0 0 [] = xs := by simp [splice]

theorem spliced_copy (A : Option Addr) (xs : List Sm) (c : Nat) (w : World) (B : Nat) (h : Row w B A xs) (hB : B ≤ w.heap.size) (hc : xs.length ≤ c) (hm : c ≤ maxLen) (hl : xs.length ≤ 1048576) (hA : A = none → c = 0) :
    Calls Try.prog 112 #[.slice A xs.length c, .int .i64 0, .int .i64 0, .slice none 0 0] w (Spliced w xs) := by
  have := spliced_any A none xs [] c 0 0 0 w B h (fun hn => absurd hn (by simp)) hB hc hm hl (by simp) (by simp) hA (fun _ => rfl) (by omega) (by omega) (by omega)
  simpa [splice_zero] using this

theorem edited_any (A A' : Option Addr) (L : List (List Sm)) (xs0 ys : List Sm) (c c' : Nat) (th f t : Int) (w : World) (B : Nat) (h : Rows2 w B A L) (h' : Row w B A' ys) (hB : B ≤ w.heap.size)
    (hm : L.length ≤ 1048576) (hm2 : Hid (∀ xs ∈ L, xs.length ≤ 1048576)) (hc' : ys.length ≤ c') (hl' : ys.length ≤ 1048576) (hA' : Hid (A' = none → c' = 0))
    (hth : 0 ≤ th) (hx0 : Hid (L[th.toNat]? = some xs0)) (h0 : 0 ≤ f) (h1 : f ≤ t) (h2 : t ≤ xs0.length) :
    Calls Try.prog 71 #[.agg #[.slice A L.length c], .int .i64 th, .int .i64 f, .int .i64 t, .slice A' ys.length c'] w (Copied w (L.set th.toNat (splice xs0 f.toNat t.toNat ys))) := by
  obtain ⟨i0, hi, hz0, hz1, hz2⟩ := info_parts Try.info37
  obtain ⟨E, hE⟩ : ∃ E, E = L.set th.toNat (splice xs0 f.toNat t.toNat ys) := ⟨_, rfl⟩
  have hEl : E.length = L.length := by rw [hE, List.length_set]
  obtain ⟨W, hW⟩ : ∃ W, W = (w.alloc (.cells #[.slice A L.length c] 25)).alloc (.cells #[.slice none 0 0] 25) := ⟨_, rfl⟩
  have bW : Below w.heap.size w W := by rw [hW]; go_grown
  have sW : W.heap.size = w.heap.size + 1 + 1 := by rw [hW]; simp
  have kW : Bk W (w.heap.size + 1) 25 #[.slice none 0 0] := by
    rw [hW]; have := Bk.new (w.alloc (.cells #[.slice A L.length c] 25)) #[.slice none 0 0] 25
    rwa [World.size_alloc] at this
  have hmk := make_any Try.underlying23 hi hz0 L.length (by rw [hz2]; omega) (by omega)
  rw [hz1, Nat.mul_one] at hmk
  obtain ⟨W1, hW1⟩ : ∃ W1, W1 = W.alloc (.cells (madeCells (Value.slice none 0 0).cells L.length) 37) := ⟨_, rfl⟩
  have start := Lib.hid (show BuildS W W1 E 0 from by
    rw [hW1]
    exact ⟨(Below.refl _ _).alloc (Nat.le_refl _) _, _, fun _ => 0, fun _ => 0, Bk.new _ _ _, by simp [size_madeCells, hEl], fun j x hj => absurd hj (by omega), fun i j _ hj => absurd hj (by omega)⟩)
  have hmk1 : (Instr.makeSlice 23 (.int .i64 (L.length : Int)) (.int .i64 (L.length : Int))).run Try.prog ((w.alloc (.cells #[.slice A L.length c] 25)).alloc (.cells #[.slice none 0 0] 25)) = .ok (.slice (some ⟨W.heap.size, 0, none⟩) L.length L.length) W1 := by rw [← hW, hW1]; exact hmk W
  have hbox : W1.cell? ⟨w.heap.size, 0, none⟩ = some (.slice A L.length c) := by
    have k0 : Bk W w.heap.size 25 #[.slice A L.length c] := by
      rw [hW]; exact (Bk.new w #[.slice A L.length c] 25).alloc _
    have k1 : Bk W1 w.heap.size 25 #[.slice A L.length c] := by rw [hW1]; exact k0.alloc _
    exact k1.cell 0
  have HE := Lib.hid hE
  have HEl := Lib.hid hEl
  have HW := Lib.hid hW
  have BW := Lib.hid bW
  have SW := Lib.hid sW
  have KW := Lib.hid kW
  have HR := Lib.hid h
  have HR' := Lib.hid h'
  rw [← hE]
  clear hz0 hz1 hz2 hi hmk hE hEl hW1 hW bW sW kW h h'
  go_enter Try.func71, Try.ntmps71
  go_wp2
  go_loopw [21] (fun i wr => ∃ k : Nat, k ≤ L.length ∧ i = .int .i64 k ∧ BuildS W wr E k) (fun i _ => L.length - (intOf i).toNat)
  case atStart => exact ⟨0, Nat.zero_le _, rfl, start.out⟩
  case round =>
    obtain ⟨k, hk, rfl, hb⟩ := hrel
    clear start hmk1 hbox
    by_cases hlt : k < L.length
    · have hbel : Below W.heap.size W _ := hb.1
      have hBW : B ≤ W.heap.size := by have := SW.out; omega
      have hbw := below_on BW.out hbel
      obtain ⟨b, off, xs, Ai, ci, rfl, hbB, hx, hx0', hlx, hmx, hA0, hrow⟩ := (HR.out.below hbw hB).cap_ hlt
      obtain ⟨cs, D, C, hbk, hsz, -, -⟩ := hb.2
      have hg := hbk.lt
      obtain ⟨v0, e0⟩ := hbk.some_ (i := k) (by rw [hsz, HEl.out]; omega)
      have q0 := hbk.free k
      have hlen : xs.length ≤ 1048576 := hm2.out xs (List.mem_of_getElem? hx)
      have hrow' := HR'.out.below hbw hB
      have hz := hbel.size
      have Hb := Lib.hid hb
      have Hx := Lib.hid hx
      have HA0 := Lib.hid hA0
      have Hbw := Lib.hid hbw
      have hBr := Nat.le_trans hBW hz
      clear hb hx hA0 hbk hsz hbw hbel
      by_cases heq : (k : Int) = th
      · subst heq
        have hxe : xs = xs0 := by
          have := hx0.out
          rw [Int.toNat_natCast, Hx.out] at this
          injection this
        subst hxe
        have HEk : Hid (E[k]? = some (splice xs f.toNat t.toNat ys)) := Lib.hid (by rw [HE.out, Int.toNat_natCast, List.getElem?_set_self hlt])
        clear hx0
        go_wp2_with (go_at_call 112; refine (spliced_any Ai A' xs ys ci c' f t _ B hrow hrow' hBr hlx hmx hlen hc' hl' HA0.out hA'.out h0 h1 h2).mono ?_; rintro e w1 ⟨c1, rfl, hc1, hm1, hb1, hlt1, hown1⟩; obtain ⟨hcc, hcf⟩ := bcell hb1; have hz1 := Nat.lt_trans hg hlt1)
        go_roundw
        case rel => exact ⟨k + 1, by omega, by go_num, Hb.out.next hb1 hlt1 hown1 hc1 hm1 HEk.out⟩
        case measure => simp [intOf]; omega
      · have hq : ((k : Int) == th) = false := by simp [heq]
        have HEk : Hid (E[k]? = some xs) := Lib.hid (by rw [HE.out, List.getElem?_set_ne (by omega)]; exact Hx.out)
        clear hx0 heq
        go_wp2_with (go_at_call 112; refine (spliced_copy Ai xs ci _ B hrow hBr hlx hmx hlen HA0.out).mono ?_; rintro e w1 ⟨c1, rfl, hc1, hm1, hb1, hlt1, hown1⟩; obtain ⟨hcc, hcf⟩ := bcell hb1; have hz1 := Nat.lt_trans hg hlt1)
        go_roundw
        case rel => exact ⟨k + 1, by omega, by go_num, Hb.out.next hb1 hlt1 hown1 hc1 hm1 HEk.out⟩
        case measure => simp [intOf]; omega
    · have hkl : k = L.length := by omega
      subst hkl
      have hbel := hb.1
      have hb' : BuildS W wr E E.length := by rw [HEl.out]; exact hb
      have hown := hb'.done
      have k2 := KW.out.below hbel KW.out.lt
      have c2 := k2.cell 0
      have f2 := k2.free 0
      have hres := (k2.set 0 (.slice (some ⟨W.heap.size, 0, none⟩) L.length L.length)).cell 0
      have hB := Lib.hid (below_on BW.out hbel)
      have Hown := Lib.hid hown
      have hlt2 := Lib.hid (show w.heap.size + 1 < W.heap.size by have := SW.out; omega)
      simp at c2
      clear hb hb' hown k2 hbel
      go_wp2
      refine bodyPost_ret (v := .agg #[.slice (some ⟨W.heap.size, 0, none⟩) L.length L.length]) (by simp [results, Try.results71, hres, go_sem]) rfl ?_
      refine ⟨some ⟨W.heap.size, 0, none⟩, L.length, by rw [HEl.out], hB.out.setCell (by show _ ≤ w.heap.size + 1; omega) _, ?_⟩
      refine Hown.out.keep (by have := hlt2.out; omega) (by simp only [World.size_setCell]; exact Nat.le_refl _) fun i hi _ => ?_
      have := hlt2.out
      exact Below.heap_setCell _ _ _ i (by show i ≠ w.heap.size + 1; omega)
end Go.Proofs.Yteinbbhhjalbeaa
