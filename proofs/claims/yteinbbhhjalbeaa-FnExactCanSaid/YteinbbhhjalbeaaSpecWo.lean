/-
  The contract of the reference model's Without, over the same plain lists as the program's.
-/
import Derived.Test.YteinbbhhjalbeaaCopy1
namespace Go.Proofs.Yteinbbhhjalbeaa
open Go.RowKit Pl
set_option maxHeartbeats 400000
set_option linter.unusedVariables false

/-- The threads of a program of the call's own, blocks perhaps shared. -/
def InRows (w : World) (lo hi : Nat) (A : Option Addr) (L : List (List Sm)) : Prop :=
  0 < L.length → ∃ (g : Nat) (cs : Array Value), A = some ⟨g, 0, none⟩ ∧ lo ≤ g ∧ g < hi ∧ Bk w g 37 cs ∧
    ∀ (i : Nat) (xs : List Sm), L[i]? = some xs → ∃ Ai ci, cs[i]? = some (.slice Ai xs.length ci) ∧ xs.length ≤ ci ∧ ci ≤ maxLen ∧ (Ai = none → ci = 0) ∧ OwnRow w lo hi Ai xs
theorem InRows.rows {w : World} {lo hi : Nat} {A : Option Addr} {L : List (List Sm)} (h : InRows w lo hi A L) : Rows2 w hi A L := fun hn => by
  obtain ⟨g, cs, hA, _, hg, hb, hx⟩ := h hn
  refine ⟨g, 0, hA, hg, fun i xs hi => ?_⟩
  obtain ⟨Ai, ci, g0, g1, g2, g3, g4⟩ := hx i xs hi
  exact ⟨Ai, ci, by rw [Nat.zero_add]; exact (hb.cell i).trans g0, g1, g2, g3, g4.row⟩
theorem InRows.keep {w w' : World} {lo hi lo' hi' : Nat} {A : Option Addr} {L : List (List Sm)} (h : InRows w lo hi A L) (hl : lo' ≤ lo) (hh : hi ≤ hi') (hk : ∀ i, lo ≤ i → i < hi → w'.heap[i]? = w.heap[i]?) : InRows w' lo' hi' A L := fun hn => by
  obtain ⟨g, cs, hA, h0, hg, hb, hx⟩ := h hn
  refine ⟨g, cs, hA, by omega, by omega, (hk g h0 hg).trans hb, fun i xs hi => ?_⟩
  obtain ⟨Ai, ci, g0, g1, g2, g3, g4⟩ := hx i xs hi
  exact ⟨Ai, ci, g0, g1, g2, g3, g4.keep hl hh hk⟩
theorem InRows.below {w w' : World} {lo hi : Nat} {A : Option Addr} {L : List (List Sm)} {B : Nat} (h : InRows w lo hi A L) (hb : Below B w w') (hB : hi ≤ B) : InRows w' lo hi A L :=
  h.keep (Nat.le_refl _) (Nat.le_refl _) fun i _ hi => hb.block i (by omega)
theorem OwnRows2.inRows {w : World} {lo hi : Nat} {A : Option Addr} {L : List (List Sm)} (h : OwnRows2 w lo hi A L) : InRows w lo hi A L := fun hn => by
  obtain ⟨g, cs, D, C, hA, h0, hg, hb, hx, _⟩ := h hn
  exact ⟨g, cs, hA, h0, hg, hb, fun i xs hi => ⟨D i, C i, hx i xs hi⟩⟩
/-- The reference model's answer. -/
def AnswerI (w : World) (E : List (List Sm)) (ok : Bool) (e : Ending) (w' : World) : Prop :=
  ∃ A c, e = .returned (.tuple #[.agg #[.slice A E.length c], .bool ok]) ∧ Below w.heap.size w w' ∧ InRows w' w.heap.size w'.heap.size A E

theorem erase_on {xs : List Sm} {m a : Nat} {x : Sm} (hx : xs[m]? = some x) (h : m ≠ a) : (xs.take (m + 1)).eraseIdx a = (xs.take m).eraseIdx a ++ [x] := by
  have hm : m < xs.length := (List.getElem?_eq_some_iff.1 hx).1
  have e : xs.take (m + 1) = xs.take m ++ [x] := by rw [List.take_add_one, hx]; rfl
  have hl : (xs.take m).length = m := by rw [List.length_take]; omega
  rw [e]
  rcases Nat.lt_or_ge a m with h1 | h1
  · rw [List.eraseIdx_append_of_lt_length (by omega)]
  · rw [List.eraseIdx_of_length_le (by rw [List.length_append, hl, List.length_singleton]; omega), List.eraseIdx_of_length_le (by omega)]
theorem erase_skip {xs : List Sm} {m : Nat} {x : Sm} (hx : xs[m]? = some x) : (xs.take (m + 1)).eraseIdx m = (xs.take m).eraseIdx m := by
  have hm : m < xs.length := (List.getElem?_eq_some_iff.1 hx).1
  have e : xs.take (m + 1) = xs.take m ++ [x] := by rw [List.take_add_one, hx]; rfl
  have hl : (xs.take m).length = m := by rw [List.length_take]; omega
  rw [e, List.eraseIdx_append_of_length_le (by omega), hl, Nat.sub_self, List.eraseIdx_of_length_le (by omega : (xs.take m).length ≤ m)]
  simp

theorem put_done {w2 w4 : World} {L : List (List Sm)} {hs : List Value} {lo gc cc g cap k : Nat} {zs : List Sm} (own2 : w2.ownsRow lo 37 1 (.slice (some ⟨gc, 0, none⟩) L.length cc) L.length hs) (hh : HeadsIn w2 lo w2.heap.size hs L)
    (b24 : Below w2.heap.size w2 w4) (hl : w4.ownsRow w2.heap.size 27 5 (.slice (some ⟨g, 0, none⟩) zs.length cap) zs.length (flat zs)) (hlo : lo ≤ w2.heap.size) :
    InRows (w4.setCell ⟨gc, k, none⟩ (.slice (some ⟨g, 0, none⟩) zs.length cap)) lo w4.heap.size (some ⟨gc, 0, none⟩) (L.set k zs) := fun hn => by
  rcases own2.2 with ⟨h0, _⟩ | ⟨gc', cc', cur, hv, hb, hh0, h1, h2, h3, htake⟩
  · simp at h0
  simp only [Value.slice.injEq, Option.some.injEq, Addr.mk.injEq, and_true, true_and] at hv
  obtain ⟨rfl, rfl⟩ := hv
  have hbk : Bk w2 gc 37 cur := hh0
  have hlt := hbk.lt
  obtain ⟨c1, c2, c3, cu, hcu⟩ := owns_cap hl
  have hcl := hcu.lt
  have hset : ∀ i, i ≠ gc → (w4.setCell ⟨gc, k, none⟩ (.slice (some ⟨g, 0, none⟩) zs.length cap)).heap[i]? = w4.heap[i]? := fun i hi => Below.heap_setCell w4 ⟨gc, k, none⟩ _ i hi
  have hz := b24.size
  refine ⟨gc, _, rfl, hb, by omega, (hbk.below b24 hlt).set _ _, fun i ys hi => ?_⟩
  have hcur : ∀ (j : Nat) (u : Value), hs[j]? = some u → cur[j]? = some u := by
    intro j u hj
    rw [← htake, List.getElem?_take] at hj
    split at hj
    · simpa using hj
    · cases hj
  by_cases e : i = k
  · subst e
    have hiL : i < L.length := by
      have := (List.getElem?_eq_some_iff.1 hi).1
      simpa using this
    obtain rfl : zs = ys := by rw [List.getElem?_set_self hiL] at hi; injection hi
    refine ⟨some ⟨g, 0, none⟩, cap, ?_, c1, c2, (fun e0 => by cases e0), ?_⟩
    · rw [Array.getElem?_setIfInBounds_self_of_lt (by omega)]
    · exact (own_row hl c3).keep (by omega) (by omega) fun j hj hj2 => hset j (by omega)
  · rw [List.getElem?_set_ne (by omega)] at hi
    obtain ⟨Ai, ci, g0, g1, g2, g3, g5⟩ := hh.2 i ys hi
    refine ⟨Ai, ci, by rw [Array.getElem?_setIfInBounds_ne (by omega)]; exact hcur _ _ g0, g1, g2, g3, fun hn2 => ?_⟩
    obtain ⟨q, cs, hA, h5, h6, h7, h8⟩ := g5 hn2
    refine ⟨q, cs, hA, h5, by omega, ((hset q (fun e1 => ?_)).trans (b24.block q h6)).trans h7, h8⟩
    subst e1
    unfold Bk at hbk h7
    rw [hbk] at h7
    injection h7 with h7
    injection h7 with _ h7
    cases h7

theorem swithout_no1 (A : Option Addr) (L : List (List Sm)) (c : Nat) (th at_ : Int) (w : World) (B : Nat) (h : Rows2 w B A L) (hB : B ≤ w.heap.size) (hm : L.length ≤ 1048576) (hm2 : Hid (∀ xs ∈ L, xs.length ≤ 1048576)) (hp : Hid (progB L = false)) :
    Calls Try.prog 19 #[.agg #[.slice A L.length c], .int .i64 th, .int .i64 at_] w (AnswerI w [] false) := by
  obtain ⟨W, hW⟩ : ∃ W, W = (w.alloc (.cells #[.slice A L.length c] 25)).alloc (.cells #[.slice none 0 0] 25) := ⟨_, rfl⟩
  have bW : Below w.heap.size w W := by rw [hW]; go_grown
  have sW : W.heap.size = w.heap.size + 1 + 1 := by rw [hW]; simp
  have kW : Bk W (w.heap.size + 1) 25 #[.slice none 0 0] := by
    rw [hW]; have := Bk.new (w.alloc (.cells #[.slice A L.length c] 25)) #[.slice none 0 0] 25
    rwa [World.size_alloc] at this
  have k0 : Bk W w.heap.size 25 #[.slice A L.length c] := by
    rw [hW]; exact (Bk.new w #[.slice A L.length c] 25).alloc _
  have BW := Lib.hid bW
  have SW := Lib.hid sW
  have KW := Lib.hid kW
  have K0 := Lib.hid k0
  have HR := Lib.hid (h.below bW hB)
  have HBW : Hid (B ≤ W.heap.size) := Lib.hid (Nat.le_trans hB bW.size)
  have HW := Lib.hid hW
  clear hW bW sW kW k0 h
  go_enter Try.func19, Try.ntmps19
  go_wp2_with fail
  rw [← HW.out]
  refine (sprog_any A L c W B HR.out HBW.out hm hm2 _ hp).mono ?_
  rintro e w1 ⟨rfl, hb1⟩
  have hbox := (K0.out.below hb1 K0.out.lt).cell 0
  simp at hbox
  have HR1 := Lib.hid (HR.out.below hb1 HBW.out)
  have HB1 : Hid (B ≤ w1.heap.size) := Lib.hid (Nat.le_trans HBW.out hb1.size)
  have K1 := Lib.hid (KW.out.below hb1 KW.out.lt)
  have K01 := Lib.hid (K0.out.below hb1 K0.out.lt)
  have B1 := Lib.hid (below_on BW.out hb1)
  have S1 : Hid (w.heap.size + 1 < w1.heap.size) := Lib.hid K1.out.lt
  clear hb1
  have c1 := K1.out.cell 0
  have f1 := K1.out.free 0
  have hres := (K1.out.set 0 (.slice none 0 0)).cell 0
  simp at c1
  go_wp2
  refine bodyPost_ret (v := .tuple #[.agg #[.slice none 0 0], .bool false]) (by simp [results, Try.results19, hres, go_sem]) rfl ?_
  exact ⟨none, 0, rfl, B1.out.setCell (by show _ ≤ w.heap.size + 1; omega) _, fun hn => absurd hn (by simp)⟩

theorem swithout_no2 (A : Option Addr) (L : List (List Sm)) (c : Nat) (th at_ : Int) (w : World) (B : Nat) (h : Rows2 w B A L) (hB : B ≤ w.heap.size) (hm : L.length ≤ 1048576) (hm2 : Hid (∀ xs ∈ L, xs.length ≤ 1048576)) (hp : Hid (progB L = true)) (hv : Hid (inB th 0 ((L.length : Int) - 1) = false)) :
    Calls Try.prog 19 #[.agg #[.slice A L.length c], .int .i64 th, .int .i64 at_] w (AnswerI w [] false) := by
  obtain ⟨W, hW⟩ : ∃ W, W = (w.alloc (.cells #[.slice A L.length c] 25)).alloc (.cells #[.slice none 0 0] 25) := ⟨_, rfl⟩
  have bW : Below w.heap.size w W := by rw [hW]; go_grown
  have sW : W.heap.size = w.heap.size + 1 + 1 := by rw [hW]; simp
  have kW : Bk W (w.heap.size + 1) 25 #[.slice none 0 0] := by
    rw [hW]; have := Bk.new (w.alloc (.cells #[.slice A L.length c] 25)) #[.slice none 0 0] 25
    rwa [World.size_alloc] at this
  have k0 : Bk W w.heap.size 25 #[.slice A L.length c] := by
    rw [hW]; exact (Bk.new w #[.slice A L.length c] 25).alloc _
  have BW := Lib.hid bW
  have SW := Lib.hid sW
  have KW := Lib.hid kW
  have K0 := Lib.hid k0
  have HR := Lib.hid (h.below bW hB)
  have HBW : Hid (B ≤ W.heap.size) := Lib.hid (Nat.le_trans hB bW.size)
  have HW := Lib.hid hW
  clear hW bW sW kW k0 h
  go_enter Try.func19, Try.ntmps19
  go_wp2_with fail
  rw [← HW.out]
  refine (sprog_any A L c W B HR.out HBW.out hm hm2 _ hp).mono ?_
  rintro e w1 ⟨rfl, hb1⟩
  have hbox := (K0.out.below hb1 K0.out.lt).cell 0
  simp at hbox
  have HR1 := Lib.hid (HR.out.below hb1 HBW.out)
  have HB1 : Hid (B ≤ w1.heap.size) := Lib.hid (Nat.le_trans HBW.out hb1.size)
  have K1 := Lib.hid (KW.out.below hb1 KW.out.lt)
  have K01 := Lib.hid (K0.out.below hb1 K0.out.lt)
  have B1 := Lib.hid (below_on BW.out hb1)
  have S1 : Hid (w.heap.size + 1 < w1.heap.size) := Lib.hid K1.out.lt
  clear hb1
  have c1 := K1.out.cell 0
  have f1 := K1.out.free 0
  have hres := (K1.out.set 0 (.slice none 0 0)).cell 0
  simp at c1
  go_wp2_with (go_at_call 73; refine (ret_bool hv.out (l1In_any th 0 ((L.length : Int) - 1) _)).mono ?_; rintro e w' ⟨rfl, rfl⟩)
  refine bodyPost_ret (v := .tuple #[.agg #[.slice none 0 0], .bool false]) (by simp [results, Try.results19, hres, go_sem]) rfl ?_
  exact ⟨none, 0, rfl, B1.out.setCell (by show _ ≤ w.heap.size + 1; omega) _, fun hn => absurd hn (by simp)⟩

theorem swithout_mid (A : Option Addr) (L : List (List Sm)) (xs : List Sm) (c k : Nat) (at_ : Int) (w : World) (B : Nat) (h : Rows2 w B A L) (hB : B ≤ w.heap.size) (hm : L.length ≤ 1048576) (hm2 : Hid (∀ xs ∈ L, xs.length ≤ 1048576)) (hp : Hid (progB L = true)) (hv : Hid (inB (k : Int) 0 ((L.length : Int) - 1) = true)) (hx : Hid (L[k]? = some xs)) (hv2 : Hid (inB at_ 0 ((xs.length : Int) - 1) = false)) :
    Calls Try.prog 19 #[.agg #[.slice A L.length c], .int .i64 (k : Int), .int .i64 at_] w (AnswerI w [] false) := by
  have hk : k < L.length := (List.getElem?_eq_some_iff.1 hx.out).1
  have hlen : xs.length ≤ 1048576 := hm2.out xs (List.mem_of_getElem? hx.out)
  obtain ⟨W, hW⟩ : ∃ W, W = (w.alloc (.cells #[.slice A L.length c] 25)).alloc (.cells #[.slice none 0 0] 25) := ⟨_, rfl⟩
  have bW : Below w.heap.size w W := by rw [hW]; go_grown
  have sW : W.heap.size = w.heap.size + 1 + 1 := by rw [hW]; simp
  have kW : Bk W (w.heap.size + 1) 25 #[.slice none 0 0] := by
    rw [hW]; have := Bk.new (w.alloc (.cells #[.slice A L.length c] 25)) #[.slice none 0 0] 25
    rwa [World.size_alloc] at this
  have k0 : Bk W w.heap.size 25 #[.slice A L.length c] := by
    rw [hW]; exact (Bk.new w #[.slice A L.length c] 25).alloc _
  have BW := Lib.hid bW
  have SW := Lib.hid sW
  have KW := Lib.hid kW
  have K0 := Lib.hid k0
  have HR := Lib.hid (h.below bW hB)
  have HBW : Hid (B ≤ W.heap.size) := Lib.hid (Nat.le_trans hB bW.size)
  have HW := Lib.hid hW
  clear hW bW sW kW k0 h
  go_enter Try.func19, Try.ntmps19
  go_wp2_with fail
  rw [← HW.out]
  refine (sprog_any A L c W B HR.out HBW.out hm hm2 _ hp).mono ?_
  rintro e w1 ⟨rfl, hb1⟩
  have hbox := (K0.out.below hb1 K0.out.lt).cell 0
  simp at hbox
  have HR1 := Lib.hid (HR.out.below hb1 HBW.out)
  have HB1 : Hid (B ≤ w1.heap.size) := Lib.hid (Nat.le_trans HBW.out hb1.size)
  have K1 := Lib.hid (KW.out.below hb1 KW.out.lt)
  have K01 := Lib.hid (K0.out.below hb1 K0.out.lt)
  have B1 := Lib.hid (below_on BW.out hb1)
  have S1 : Hid (w.heap.size + 1 < w1.heap.size) := Lib.hid K1.out.lt
  clear hb1
  obtain ⟨b, off, xs', Ai, ci, rfl, hbB, hx', hx0, hlx, hmx, hA0, hrow⟩ := HR1.out.cap_ hk
  obtain rfl : xs' = xs := by
    have := hx.out
    rw [hx'] at this
    injection this
  clear hx' hmx hA0 hrow hbB
  have hi1 : (k : Int) < (L.length : Int) := by omega
  have c1 := K1.out.cell 0
  have f1 := K1.out.free 0
  have hres := (K1.out.set 0 (.slice none 0 0)).cell 0
  simp at c1
  go_wp2_with (go_at_call 73; (first | (with_reducible refine (ret_bool hv.out (l1In_any (k : Int) 0 ((L.length : Int) - 1) _)).mono ?_) | (with_reducible refine (ret_bool hv2.out (l1In_any at_ 0 ((xs'.length : Int) - 1) _)).mono ?_)); rintro e w' ⟨rfl, rfl⟩)
  refine bodyPost_ret (v := .tuple #[.agg #[.slice none 0 0], .bool false]) (by simp [results, Try.results19, hres, go_sem]) rfl ?_
  exact ⟨none, 0, rfl, B1.out.setCell (by show _ ≤ w.heap.size + 1; omega) _, fun hn => absurd hn (by simp)⟩

theorem swithout_yes (A : Option Addr) (L : List (List Sm)) (xs : List Sm) (c k : Nat) (at_ : Int) (w : World) (B : Nat) (h : Rows2 w B A L) (hB : B ≤ w.heap.size) (hm : L.length ≤ 1048576) (hm2 : Hid (∀ xs ∈ L, xs.length ≤ 1048576)) (hp : Hid (progB L = true)) (hv : Hid (inB (k : Int) 0 ((L.length : Int) - 1) = true)) (hx : Hid (L[k]? = some xs)) (hv2 : Hid (inB at_ 0 ((xs.length : Int) - 1) = true)) :
    Calls Try.prog 19 #[.agg #[.slice A L.length c], .int .i64 (k : Int), .int .i64 at_] w (AnswerI w (L.set k (xs.eraseIdx at_.toNat)) true) := by
  obtain ⟨i0, hi, iz0, iz1, iz2⟩ := info_parts Try.info27
  have hk : k < L.length := (List.getElem?_eq_some_iff.1 hx.out).1
  have hlen : xs.length ≤ 1048576 := hm2.out xs (List.mem_of_getElem? hx.out)
  obtain ⟨a, rfl⟩ := Int.eq_ofNat_of_zero_le (inB_iff.1 hv2.out).1
  have ha : a < xs.length := by have := (inB_iff.1 hv2.out).2; omega
  obtain ⟨W, hW⟩ : ∃ W, W = (w.alloc (.cells #[.slice A L.length c] 25)).alloc (.cells #[.slice none 0 0] 25) := ⟨_, rfl⟩
  have bW : Below w.heap.size w W := by rw [hW]; go_grown
  have sW : W.heap.size = w.heap.size + 1 + 1 := by rw [hW]; simp
  have kW : Bk W (w.heap.size + 1) 25 #[.slice none 0 0] := by
    rw [hW]; have := Bk.new (w.alloc (.cells #[.slice A L.length c] 25)) #[.slice none 0 0] 25
    rwa [World.size_alloc] at this
  have k0 : Bk W w.heap.size 25 #[.slice A L.length c] := by
    rw [hW]; exact (Bk.new w #[.slice A L.length c] 25).alloc _
  have BW := Lib.hid bW
  have SW := Lib.hid sW
  have KW := Lib.hid kW
  have K0 := Lib.hid k0
  have HR := Lib.hid (h.below bW hB)
  have HBW : Hid (B ≤ W.heap.size) := Lib.hid (Nat.le_trans hB bW.size)
  have HW := Lib.hid hW
  clear hW bW sW kW k0 h
  go_enter Try.func19, Try.ntmps19
  go_wp2_with fail
  rw [← HW.out]
  refine (sprog_any A L c W B HR.out HBW.out hm hm2 _ hp).mono ?_
  rintro e w1 ⟨rfl, hb1⟩
  have hbox := (K0.out.below hb1 K0.out.lt).cell 0
  simp at hbox
  have HR1 := Lib.hid (HR.out.below hb1 HBW.out)
  have HB1 : Hid (B ≤ w1.heap.size) := Lib.hid (Nat.le_trans HBW.out hb1.size)
  have K1 := Lib.hid (KW.out.below hb1 KW.out.lt)
  have K01 := Lib.hid (K0.out.below hb1 K0.out.lt)
  have B1 := Lib.hid (below_on BW.out hb1)
  have S1 : Hid (w.heap.size + 1 < w1.heap.size) := Lib.hid K1.out.lt
  clear hb1
  obtain ⟨b, off, xs', Ai, ci, rfl, hbB, hx', hx0, hlx, hmx, hA0, hrow⟩ := HR1.out.cap_ hk
  obtain rfl : xs' = xs := by
    have := hx.out
    rw [hx'] at this
    injection this
  have Hrow := Lib.hid hrow
  have hx0' := hx0
  have Hx0 := Lib.hid hx0'
  clear hx' hmx hA0 hrow hx0'
  have hi1 : (k : Int) < (L.length : Int) := by omega
  have hbw1 : b < w1.heap.size := by have := HB1.out; omega
  go_wp2_with (first | (go_at_call 73; (first | (with_reducible refine (ret_bool hv.out (l1In_any (k : Int) 0 ((L.length : Int) - 1) _)).mono ?_) | (with_reducible refine (ret_bool hv2.out (l1In_any (a : Int) 0 ((xs'.length : Int) - 1) _)).mono ?_)); rintro e w' ⟨rfl, rfl⟩) | (go_at_call 74; refine (l1Copy_any (some ⟨b, off, none⟩) L c w1 B HR1.out HB1.out hm hm2).mono ?_; rintro e w2 ⟨Ac, cc, hs, rfl, hb2, own2, hh2⟩; have B12 := Lib.hid hb2; have Own2 := Lib.hid own2; have Hh2 := Lib.hid hh2; clear hb2 own2 hh2))
  obtain ⟨gc, cc', eA, hgc, hgl⟩ := Own2.out.form (show 0 < L.length by omega)
  injection eA with e1 _ e3
  subst e1
  subst e3
  obtain ⟨V, hV⟩ : ∃ V, V = w2.alloc (.cells #[.slice (some ⟨gc, 0, none⟩) L.length cc] 25) := ⟨_, rfl⟩
  have bV : Below w2.heap.size w2 V := by rw [hV]; go_grown
  have sV : V.heap.size = w2.heap.size + 1 := by rw [hV]; simp
  have kV : Bk V w2.heap.size 25 #[.slice (some ⟨gc, 0, none⟩) L.length cc] := by rw [hV]; exact Bk.new _ _ _
  have start : Hid ((V.alloc (.cells #[] 27)).ownsRow V.heap.size 27 5 (.slice (some ⟨w2.heap.size + 1, 0, none⟩) 0 0) 0 (flat [])) := Lib.hid (by
    have := World.ownsRow_made (base := V.heap.size) (e := 27) (size := 5) V #[] 0 (Nat.le_refl _) (by decide) (by simp)
    rwa [sV] at this ⊢)
  rw [← hV]
  have BV := Lib.hid bV
  have SV := Lib.hid sV
  have KV := Lib.hid kV
  have B1V := Lib.hid (below_on B12.out bV)
  have hgc1 : w1.heap.size ≤ gc := hgc
  clear hV bV sV kV hbox hx0 hgc
  go_loopw [9, 10] (fun l j wr => ∃ (m g cap : Nat) (zs : List Sm), m ≤ xs'.length ∧ j = .int .i64 m ∧ l = .slice (some ⟨g, 0, none⟩) zs.length cap ∧ V.heap.size ≤ g ∧ Hid ((xs'.take m).eraseIdx a = zs) ∧ wr.ownsRow V.heap.size 27 5 (.slice (some ⟨g, 0, none⟩) zs.length cap) zs.length (flat zs) ∧ Below V.heap.size V wr) (fun _ j _ => xs'.length - (intOf j).toNat)
  case atStart => exact ⟨0, _, 0, [], Nat.zero_le _, rfl, rfl, by rw [SV.out]; exact Nat.le_refl _, Lib.hid (by simp), start.out, (Below.refl _ _).alloc (Nat.le_refl _) _⟩
  case round =>
    obtain ⟨m, g, cap, zs, hmm, rfl, rfl, hgg, hzs, hown, hbel⟩ := hrel
    clear start
    have hz := hbel.size
    have B1r := below_on B1V.out hbel
    have hbox := (K01.out.below B1r K01.out.lt).cell 0
    simp at hbox
    have hx0 := (B1r.cell (p := ⟨b, off + k, none⟩) hbw1).trans Hx0.out
    by_cases hlm : m < xs'.length
    · obtain ⟨b', off', x, rfl, hb', hx', -, hx0', hx1', hx2', hx3', hx4'⟩ := (Hrow.out.below B1r HB1.out).at_ hlm
      have Hx' := Lib.hid hx'
      have Hown := Lib.hid hown
      have Hbel := Lib.hid hbel
      clear hx' hown hbel B1r
      by_cases hma : m = a
      · subst hma
        have hq : ((m : Int) != (m : Int)) = false := by simp
        go_wp2
        go_roundw
        case rel => exact ⟨m + 1, g, cap, zs, by omega, by go_num, rfl, hgg, Lib.hid (by rw [erase_skip Hx'.out]; exact hzs.out), Hown.out, Hbel.out⟩
        case measure => simp [intOf]; omega
      · have hq : ((m : Int) != (a : Int)) = true := by simp; omega
        have hzl : zs.length ≤ 1048576 := by
          rw [← hzs.out]
          have := List.length_eraseIdx_le (l := xs'.take m) (i := a)
          rw [List.length_take] at this; omega
        clear hma
        go_wp2_with (at_builtin; refine wpList_append_own _ rfl (.tmp 52) (.tmp 61) 37 rfl V.heap.size 27 i0 _ 5 40 Try.underlying37 hi iz0 iz1 iz2 rfl (by decide) _ zs.length _ rfl (Hown.out.alloc _) ⟨_, 0, none⟩ 1 1 x.cells rfl rfl (cells_new _ x) (cells_one x) (by unfold maxLen; omega) (by omega) (by simp; omega) ?_; intro v' w3 own3 grow3 _; obtain ⟨g3, cap3, rfl, hg3, hlt3⟩ := own3.form (by omega); have Own3 := Lib.hid own3; have B3 := Lib.hid ((Hbel.out.alloc hz _).grown grow3 (by simp; omega) (by intro q hq; cases hq; exact hgg)); clear own3 grow3)
        go_roundw
        case rel => exact ⟨m + 1, g3, cap3, zs ++ [x], by omega, by go_num, by simp, hg3, Lib.hid (by rw [erase_on Hx'.out (fun e => by subst e; simp at hq), hzs.out]), by have := Own3.out; rw [flat_append, List.length_append, List.length_singleton]; simpa [flat] using this, B3.out⟩
        case measure => simp [intOf]; omega
    · have hml : m = xs'.length := by omega
      subst hml
      have hzx : xs'.eraseIdx a = zs := by rw [← hzs.out, List.take_length]
      obtain ⟨cur, hcur, hcs⟩ : ∃ cur, Bk w2 gc 37 cur ∧ k < cur.size := by
        rcases Own2.out.2 with ⟨h0, _⟩ | ⟨gc', cc', cur, hv', _, hh0, h1, _, h3, _⟩
        · simp at h0
        · simp only [Value.slice.injEq, Option.some.injEq, Addr.mk.injEq, and_true, true_and] at hv'
          obtain ⟨rfl, rfl⟩ := hv'
          exact ⟨cur, hh0, by omega⟩
      have bw2 := below_on BV.out hbel
      have hz12 := B12.out.size
      have hs1 := S1.out
      have kg := hcur.below bw2 hcur.lt
      obtain ⟨v0, cg⟩ := kg.some_ hcs
      have fg := kg.free k
      have kt := KV.out.below hbel KV.out.lt
      have ct := kt.cell 0
      have kr := K1.out.below B1r K1.out.lt
      have cr := kr.cell 0
      have fr := kr.free 0
      have ct2 := (kt.far (p := ⟨gc, k, none⟩) (by show w2.heap.size ≠ gc; omega) (.slice (some ⟨g, 0, none⟩) zs.length cap)).cell 0
      have kr2 := kr.far (p := ⟨gc, k, none⟩) (by show w.heap.size + 1 ≠ gc; omega) (.slice (some ⟨g, 0, none⟩) zs.length cap)
      have cr2 := kr2.cell 0
      have fr2 := kr2.free 0
      have hres := (kr2.set 0 (.slice (some ⟨gc, 0, none⟩) L.length cc)).cell 0
      simp at ct cr ct2 cr2
      have Put := Lib.hid (put_done (k := k) (zs := zs) Own2.out Hh2.out bw2 (Joins.ownsRow_le hown (by have := SV.out; omega)) hz12)
      have Bf := Lib.hid (below_on B1.out B1r)
      have Hzx := Lib.hid hzx
      clear hzx hcur hcs bw2 kg kt kr kr2 hown hbel B1r hzs
      go_wp2
      refine bodyPost_ret (v := .tuple #[.agg #[.slice (some ⟨gc, 0, none⟩) L.length cc], .bool true]) (by simp [results, Try.results19, hres, go_sem]) rfl ?_
      rw [Hzx.out]
      refine ⟨some ⟨gc, 0, none⟩, cc, by rw [List.length_set], (Bf.out.setCell (by show _ ≤ gc; omega) _).setCell (by show _ ≤ w.heap.size + 1; omega) _, ?_⟩
      refine Put.out.keep (by omega) (by simp only [World.size_setCell]; exact Nat.le_refl _) fun i hi _ => Below.heap_setCell _ _ _ i (by show i ≠ w.heap.size + 1; omega)

theorem swithout_any (A : Option Addr) (L : List (List Sm)) (c : Nat) (th at_ : Int) (w : World) (B : Nat) (h : Rows2 w B A L) (hB : B ≤ w.heap.size) (hm : L.length ≤ 1048576) (hm2 : Hid (∀ xs ∈ L, xs.length ≤ 1048576)) :
    Calls Try.prog 19 #[.agg #[.slice A L.length c], .int .i64 th, .int .i64 at_] w (AnswerI w (woE L th at_) (woB L th at_)) := by
  rcases Bool.eq_false_or_eq_true (progB L) with h1 | h1
  · rcases Bool.eq_false_or_eq_true (inB th 0 ((L.length : Int) - 1)) with h1b | h1b
    · have h1' := inB_iff.1 h1b
      obtain ⟨k, rfl⟩ := Int.eq_ofNat_of_zero_le h1'.1
      have hk : k < L.length := by omega
      have hx : L[k]? = some L[k] := List.getElem?_eq_getElem hk
      have hg : L.getD (k : Int).toNat [] = L[k] := by rw [Int.toNat_natCast, List.getD, hx]; rfl
      rcases Bool.eq_false_or_eq_true (inB at_ 0 ((L[k].length : Int) - 1)) with h2 | h2
      · have e : woB L (k : Int) at_ = true := by rw [woB, hasB, h1, h1b, hg, h2]; rfl
        rw [woE, if_pos e, e, hg, Int.toNat_natCast]
        exact swithout_yes A L L[k] c k at_ w B h hB hm hm2 (Lib.hid h1) (Lib.hid h1b) (Lib.hid hx) (Lib.hid h2)
      · have e : woB L (k : Int) at_ = false := by rw [woB, hasB, h1, h1b, hg, h2]; rfl
        rw [woE, e, if_neg (by simp)]
        exact swithout_mid A L L[k] c k at_ w B h hB hm hm2 (Lib.hid h1) (Lib.hid h1b) (Lib.hid hx) (Lib.hid h2)
    · have e : woB L th at_ = false := by rw [woB, hasB, h1, h1b]; rfl
      rw [woE, e, if_neg (by simp)]
      exact swithout_no2 A L c th at_ w B h hB hm hm2 (Lib.hid h1) (Lib.hid h1b)
  · have e : woB L th at_ = false := by rw [woB, hasB, h1]; rfl
    rw [woE, e, if_neg (by simp)]
    exact swithout_no1 A L c th at_ w B h hB hm hm2 (Lib.hid h1)

end Go.Proofs.Yteinbbhhjalbeaa
