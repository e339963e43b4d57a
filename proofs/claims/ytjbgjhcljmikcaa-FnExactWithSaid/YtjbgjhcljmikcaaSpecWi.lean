/-
  The contract of the reference model's With, over the same plain lists as the program's.
-/
import Derived.Test.YtjbgjhcljmikcaaSpecWo
import Derived.Test.YtjbgjhcljmikcaaWith
namespace Go.Proofs.Ytjbgjhcljmikcaa
open Go.RowKit Pl
set_option maxHeartbeats 1000000
set_option linter.unusedVariables false

/-- What the reference model's list has come to behind m rounds. -/
def preR (xs : List Sm) (a : Nat) (s : Sm) : Nat → List Sm
  | 0 => []
  | m + 1 => preR xs a s m ++ ((if m = a then [s] else []) ++ xs[m]?.toList)
theorem preR_low (xs : List Sm) (a : Nat) (s : Sm) : ∀ m, m ≤ a → preR xs a s m = xs.take m
  | 0, _ => by simp [preR]
  | m + 1, h => by
    rw [preR, preR_low xs a s m (by omega), if_neg (by omega), List.take_add_one, List.nil_append]
theorem preR_high (xs : List Sm) (a : Nat) (s : Sm) : ∀ m, a < m → preR xs a s m = xs.take a ++ (s :: (xs.drop a).take (m - a))
  | 0, h => absurd h (by omega)
  | m + 1, h => by
    rw [preR]
    rcases Nat.lt_or_ge a m with h1 | h1
    · rw [preR_high xs a s m h1, if_neg (by omega), List.nil_append, show m + 1 - a = (m - a) + 1 by omega, List.take_add_one, List.getElem?_drop, show a + (m - a) = m by omega, List.append_assoc, List.cons_append]
    · have e : m = a := by omega
      subst e
      rw [preR_low xs m s m (Nat.le_refl _), if_pos rfl, show m + 1 - m = 0 + 1 by omega, List.take_add_one, List.getElem?_drop, Nat.add_zero]
      simp
theorem preR_done {xs : List Sm} {a : Nat} (s : Sm) (h : a ≤ xs.length) : preR xs a s (xs.length + 1) = splice xs a a [s] := by
  have e : (xs.drop a).take (xs.length + 1 - a) = xs.drop a := List.take_of_length_le (by rw [List.length_drop]; omega)
  rw [preR_high xs a s _ (by omega), e]
  rfl
theorem preR_len (xs : List Sm) (a : Nat) (s : Sm) : ∀ m, (preR xs a s m).length ≤ 2 * m
  | 0 => by simp [preR]
  | m + 1 => by
    have := preR_len xs a s m
    rw [preR, List.length_append, List.length_append]
    have h1 : (if m = a then [s] else []).length ≤ 1 := by split <;> simp
    have h2 : (xs[m]?.toList).length ≤ 1 := by cases xs[m]? <;> simp
    omega

theorem swith_no1 (A : Option Addr) (L : List (List Sm)) (c : Nat) (th at_ : Int) (s : Sm) (w : World) (B : Nat) (h : Rows2 w B A L) (hB : B ≤ w.heap.size) (hm : L.length ≤ 1048576) (hm2 : Hid (∀ xs ∈ L, xs.length ≤ 1048576)) (hp : Hid (progB L = false)) :
    Calls Try.prog 15 #[.agg #[.slice A L.length c], .int .i64 th, .int .i64 at_, s.val] w (AnswerI w [] false) := by
  obtain ⟨W, hW⟩ : ∃ W, W = ((w.alloc (.cells #[.slice A L.length c] 25)).alloc (.cells #[.int .i64 s.k, .int .i64 s.a, .int .i64 s.b, .int .i64 s.c, .bool s.s] 27)).alloc (.cells #[.slice none 0 0] 25) := ⟨_, rfl⟩
  obtain ⟨bW, sW, k0, kS, kW⟩ : World3 w W A L.length c s := by rw [hW]; exact world3 ..
  have BW := Lib.hid bW
  have SW := Lib.hid sW
  have KW := Lib.hid kW
  have K0 := Lib.hid k0
  have KS := Lib.hid kS
  have HR := Lib.hid (h.below bW hB)
  have HBW : Hid (B ≤ W.heap.size) := Lib.hid (Nat.le_trans hB bW.size)
  have HW := Lib.hid hW
  clear hW bW sW kW k0 kS h
  go_enter Try.func15, Try.ntmps15
  go_wp2_with fail
  rw [← HW.out]
  refine (sprog_any A L c W B HR.out HBW.out hm hm2 _ hp).mono ?_
  rintro e w1 ⟨rfl, hb1⟩
  have hbox := (K0.out.below hb1 K0.out.lt).cell 0
  simp at hbox
  have HR1 := Lib.hid (HR.out.below hb1 HBW.out)
  have HB1 : Hid (B ≤ w1.heap.size) := Lib.hid (Nat.le_trans HBW.out (hb1).size)
  have K1 := Lib.hid (KW.out.below hb1 KW.out.lt)
  have K01 := Lib.hid (K0.out.below hb1 K0.out.lt)
  have KS1 := Lib.hid (KS.out.below hb1 KS.out.lt)
  have B1 := Lib.hid (below_on BW.out hb1)
  have S1 : Hid (w.heap.size + 1 + 1 < w1.heap.size) := Lib.hid K1.out.lt
  clear hb1
  have c1 := K1.out.cell 0
  have f1 := K1.out.free 0
  have hres := (K1.out.set 0 (.slice none 0 0)).cell 0
  simp at c1
  go_wp2
  refine bodyPost_ret (v := .tuple #[.agg #[.slice none 0 0], .bool false]) (by simp [results, Try.results15, hres, go_sem]) rfl ?_
  exact ⟨none, 0, rfl, B1.out.setCell (by show _ ≤ w.heap.size + 1 + 1; omega) _, fun hn => absurd hn (by simp)⟩

theorem swith_noS (A : Option Addr) (L : List (List Sm)) (c : Nat) (th at_ : Int) (s : Sm) (w : World) (B : Nat) (h : Rows2 w B A L) (hB : B ≤ w.heap.size) (hm : L.length ≤ 1048576) (hm2 : Hid (∀ xs ∈ L, xs.length ≤ 1048576)) (hp : Hid (progB L = true)) (hs : Hid (okB s.k s.a s.b s.c s.s = false)) :
    Calls Try.prog 15 #[.agg #[.slice A L.length c], .int .i64 th, .int .i64 at_, s.val] w (AnswerI w [] false) := by
  obtain ⟨W, hW⟩ : ∃ W, W = ((w.alloc (.cells #[.slice A L.length c] 25)).alloc (.cells #[.int .i64 s.k, .int .i64 s.a, .int .i64 s.b, .int .i64 s.c, .bool s.s] 27)).alloc (.cells #[.slice none 0 0] 25) := ⟨_, rfl⟩
  obtain ⟨bW, sW, k0, kS, kW⟩ : World3 w W A L.length c s := by rw [hW]; exact world3 ..
  have BW := Lib.hid bW
  have SW := Lib.hid sW
  have KW := Lib.hid kW
  have K0 := Lib.hid k0
  have KS := Lib.hid kS
  have HR := Lib.hid (h.below bW hB)
  have HBW : Hid (B ≤ W.heap.size) := Lib.hid (Nat.le_trans hB bW.size)
  have HW := Lib.hid hW
  clear hW bW sW kW k0 kS h
  go_enter Try.func15, Try.ntmps15
  go_wp2_with fail
  rw [← HW.out]
  refine (sprog_any A L c W B HR.out HBW.out hm hm2 _ hp).mono ?_
  rintro e w1 ⟨rfl, hb1⟩
  obtain ⟨s0, s1, s2, s3, s4⟩ := five_cells (KS.out.below hb1 KS.out.lt)
  go_wp2_with fail
  refine (ret_bool hs.out (sok_any s.k s.a s.b s.c s.s w1)).mono ?_
  rintro e wS ⟨rfl, hb2⟩
  clear s0 s1 s2 s3 s4
  have hbS := below_on hb1 hb2
  clear hb2
  have hbox := (K0.out.below hbS K0.out.lt).cell 0
  simp at hbox
  have HR1 := Lib.hid (HR.out.below hbS HBW.out)
  have HB1 : Hid (B ≤ wS.heap.size) := Lib.hid (Nat.le_trans HBW.out (hbS).size)
  have K1 := Lib.hid (KW.out.below hbS KW.out.lt)
  have K01 := Lib.hid (K0.out.below hbS K0.out.lt)
  have KS1 := Lib.hid (KS.out.below hbS KS.out.lt)
  have B1 := Lib.hid (below_on BW.out hbS)
  have S1 : Hid (w.heap.size + 1 + 1 < wS.heap.size) := Lib.hid K1.out.lt
  clear hb1
  clear hbS
  have c1 := K1.out.cell 0
  have f1 := K1.out.free 0
  have hres := (K1.out.set 0 (.slice none 0 0)).cell 0
  simp at c1
  go_wp2
  refine bodyPost_ret (v := .tuple #[.agg #[.slice none 0 0], .bool false]) (by simp [results, Try.results15, hres, go_sem]) rfl ?_
  exact ⟨none, 0, rfl, B1.out.setCell (by show _ ≤ w.heap.size + 1 + 1; omega) _, fun hn => absurd hn (by simp)⟩

theorem swith_no2 (A : Option Addr) (L : List (List Sm)) (c : Nat) (th at_ : Int) (s : Sm) (w : World) (B : Nat) (h : Rows2 w B A L) (hB : B ≤ w.heap.size) (hm : L.length ≤ 1048576) (hm2 : Hid (∀ xs ∈ L, xs.length ≤ 1048576)) (hp : Hid (progB L = true)) (hs : Hid (okB s.k s.a s.b s.c s.s = true)) (hv : Hid (inB th 0 ((L.length : Int) - 1) = false)) :
    Calls Try.prog 15 #[.agg #[.slice A L.length c], .int .i64 th, .int .i64 at_, s.val] w (AnswerI w [] false) := by
  obtain ⟨W, hW⟩ : ∃ W, W = ((w.alloc (.cells #[.slice A L.length c] 25)).alloc (.cells #[.int .i64 s.k, .int .i64 s.a, .int .i64 s.b, .int .i64 s.c, .bool s.s] 27)).alloc (.cells #[.slice none 0 0] 25) := ⟨_, rfl⟩
  obtain ⟨bW, sW, k0, kS, kW⟩ : World3 w W A L.length c s := by rw [hW]; exact world3 ..
  have BW := Lib.hid bW
  have SW := Lib.hid sW
  have KW := Lib.hid kW
  have K0 := Lib.hid k0
  have KS := Lib.hid kS
  have HR := Lib.hid (h.below bW hB)
  have HBW : Hid (B ≤ W.heap.size) := Lib.hid (Nat.le_trans hB bW.size)
  have HW := Lib.hid hW
  clear hW bW sW kW k0 kS h
  go_enter Try.func15, Try.ntmps15
  go_wp2_with fail
  rw [← HW.out]
  refine (sprog_any A L c W B HR.out HBW.out hm hm2 _ hp).mono ?_
  rintro e w1 ⟨rfl, hb1⟩
  obtain ⟨s0, s1, s2, s3, s4⟩ := five_cells (KS.out.below hb1 KS.out.lt)
  go_wp2_with fail
  refine (ret_bool hs.out (sok_any s.k s.a s.b s.c s.s w1)).mono ?_
  rintro e wS ⟨rfl, hb2⟩
  clear s0 s1 s2 s3 s4
  have hbS := below_on hb1 hb2
  clear hb2
  have hbox := (K0.out.below hbS K0.out.lt).cell 0
  simp at hbox
  have HR1 := Lib.hid (HR.out.below hbS HBW.out)
  have HB1 : Hid (B ≤ wS.heap.size) := Lib.hid (Nat.le_trans HBW.out (hbS).size)
  have K1 := Lib.hid (KW.out.below hbS KW.out.lt)
  have K01 := Lib.hid (K0.out.below hbS K0.out.lt)
  have KS1 := Lib.hid (KS.out.below hbS KS.out.lt)
  have B1 := Lib.hid (below_on BW.out hbS)
  have S1 : Hid (w.heap.size + 1 + 1 < wS.heap.size) := Lib.hid K1.out.lt
  clear hb1
  clear hbS
  have c1 := K1.out.cell 0
  have f1 := K1.out.free 0
  have hres := (K1.out.set 0 (.slice none 0 0)).cell 0
  simp at c1
  go_wp2_with (go_at_call 47; refine (ret_bool hv.out (l1In_any th 0 ((L.length : Int) - 1) _)).mono ?_; rintro e w' ⟨rfl, rfl⟩)
  refine bodyPost_ret (v := .tuple #[.agg #[.slice none 0 0], .bool false]) (by simp [results, Try.results15, hres, go_sem]) rfl ?_
  exact ⟨none, 0, rfl, B1.out.setCell (by show _ ≤ w.heap.size + 1 + 1; omega) _, fun hn => absurd hn (by simp)⟩

theorem swith_mid (A : Option Addr) (L : List (List Sm)) (xs : List Sm) (c k : Nat) (at_ : Int) (s : Sm) (w : World) (B : Nat) (h : Rows2 w B A L) (hB : B ≤ w.heap.size) (hm : L.length ≤ 1048576) (hm2 : Hid (∀ xs ∈ L, xs.length ≤ 1048576)) (hp : Hid (progB L = true)) (hs : Hid (okB s.k s.a s.b s.c s.s = true)) (hv : Hid (inB (k : Int) 0 ((L.length : Int) - 1) = true)) (hx : Hid (L[k]? = some xs)) (hv2 : Hid (inB at_ 0 (xs.length : Int) = false)) :
    Calls Try.prog 15 #[.agg #[.slice A L.length c], .int .i64 (k : Int), .int .i64 at_, s.val] w (AnswerI w [] false) := by
  have hk : k < L.length := (List.getElem?_eq_some_iff.1 hx.out).1
  have hlen : xs.length ≤ 1048576 := hm2.out xs (List.mem_of_getElem? hx.out)
  obtain ⟨W, hW⟩ : ∃ W, W = ((w.alloc (.cells #[.slice A L.length c] 25)).alloc (.cells #[.int .i64 s.k, .int .i64 s.a, .int .i64 s.b, .int .i64 s.c, .bool s.s] 27)).alloc (.cells #[.slice none 0 0] 25) := ⟨_, rfl⟩
  obtain ⟨bW, sW, k0, kS, kW⟩ : World3 w W A L.length c s := by rw [hW]; exact world3 ..
  have BW := Lib.hid bW
  have SW := Lib.hid sW
  have KW := Lib.hid kW
  have K0 := Lib.hid k0
  have KS := Lib.hid kS
  have HR := Lib.hid (h.below bW hB)
  have HBW : Hid (B ≤ W.heap.size) := Lib.hid (Nat.le_trans hB bW.size)
  have HW := Lib.hid hW
  clear hW bW sW kW k0 kS h
  go_enter Try.func15, Try.ntmps15
  go_wp2_with fail
  rw [← HW.out]
  refine (sprog_any A L c W B HR.out HBW.out hm hm2 _ hp).mono ?_
  rintro e w1 ⟨rfl, hb1⟩
  obtain ⟨s0, s1, s2, s3, s4⟩ := five_cells (KS.out.below hb1 KS.out.lt)
  go_wp2_with fail
  refine (ret_bool hs.out (sok_any s.k s.a s.b s.c s.s w1)).mono ?_
  rintro e wS ⟨rfl, hb2⟩
  clear s0 s1 s2 s3 s4
  have hbS := below_on hb1 hb2
  clear hb2
  have hbox := (K0.out.below hbS K0.out.lt).cell 0
  simp at hbox
  have HR1 := Lib.hid (HR.out.below hbS HBW.out)
  have HB1 : Hid (B ≤ wS.heap.size) := Lib.hid (Nat.le_trans HBW.out (hbS).size)
  have K1 := Lib.hid (KW.out.below hbS KW.out.lt)
  have K01 := Lib.hid (K0.out.below hbS K0.out.lt)
  have KS1 := Lib.hid (KS.out.below hbS KS.out.lt)
  have B1 := Lib.hid (below_on BW.out hbS)
  have S1 : Hid (w.heap.size + 1 + 1 < wS.heap.size) := Lib.hid K1.out.lt
  clear hb1
  clear hbS
  obtain ⟨b, off, xs', Ai, ci, rfl, hbB, hx', hx0, hlx, hmx, hA0, hrow⟩ := HR1.out.cap_ hk
  obtain rfl : xs' = xs := by
    have := hx.out
    rw [hx'] at this
    injection this
  clear hx' hmx hA0 hrow hbB
  have hi1 : (k : Int) < (L.length : Int) := by omega
  have c1 := K1.out.cell 0
  have f1 := K1.out.free 0
  have hres := (K1.out.set 0 (.slice none 0 0)).cell 0
  simp at c1
  go_wp2_with (go_at_call 47; (first | (with_reducible refine (ret_bool hv.out (l1In_any (k : Int) 0 ((L.length : Int) - 1) _)).mono ?_) | (with_reducible refine (ret_bool hv2.out (l1In_any at_ 0 (xs'.length : Int) _)).mono ?_)); rintro e w' ⟨rfl, rfl⟩)
  refine bodyPost_ret (v := .tuple #[.agg #[.slice none 0 0], .bool false]) (by simp [results, Try.results15, hres, go_sem]) rfl ?_
  exact ⟨none, 0, rfl, B1.out.setCell (by show _ ≤ w.heap.size + 1 + 1; omega) _, fun hn => absurd hn (by simp)⟩

theorem swith_yes (A : Option Addr) (L : List (List Sm)) (xs : List Sm) (c k : Nat) (at_ : Int) (s : Sm) (w : World) (B : Nat) (h : Rows2 w B A L) (hB : B ≤ w.heap.size) (hm : L.length ≤ 1048576) (hm2 : Hid (∀ xs ∈ L, xs.length ≤ 1048576)) (hp : Hid (progB L = true)) (hs : Hid (okB s.k s.a s.b s.c s.s = true)) (hv : Hid (inB (k : Int) 0 ((L.length : Int) - 1) = true)) (hx : Hid (L[k]? = some xs)) (hv2 : Hid (inB at_ 0 (xs.length : Int) = true)) (r : Bool) (hr : Hid (progB (L.set k (splice xs at_.toNat at_.toNat [s])) = r)) (E' : List (List Sm)) (hE' : Hid ((if r then L.set k (splice xs at_.toNat at_.toNat [s]) else []) = E')) :
    Calls Try.prog 15 #[.agg #[.slice A L.length c], .int .i64 (k : Int), .int .i64 at_, s.val] w (AnswerI w E' r) := by
  obtain ⟨i0, hi, iz0, iz1, iz2⟩ := info_parts Try.info27
  have hk : k < L.length := (List.getElem?_eq_some_iff.1 hx.out).1
  have hlen6 : xs.length ≤ 6 := (prog_small hp.out).2.2 xs (List.mem_of_getElem? hx.out)
  obtain ⟨a, rfl⟩ := Int.eq_ofNat_of_zero_le (inB_iff.1 hv2.out).1
  have ha : a ≤ xs.length := by have := (inB_iff.1 hv2.out).2; omega
  rw [Int.toNat_natCast] at hr hE'
  obtain ⟨W, hW⟩ : ∃ W, W = ((w.alloc (.cells #[.slice A L.length c] 25)).alloc (.cells #[.int .i64 s.k, .int .i64 s.a, .int .i64 s.b, .int .i64 s.c, .bool s.s] 27)).alloc (.cells #[.slice none 0 0] 25) := ⟨_, rfl⟩
  obtain ⟨bW, sW, k0, kS, kW⟩ : World3 w W A L.length c s := by rw [hW]; exact world3 ..
  have BW := Lib.hid bW
  have SW := Lib.hid sW
  have KW := Lib.hid kW
  have K0 := Lib.hid k0
  have KS := Lib.hid kS
  have HR := Lib.hid (h.below bW hB)
  have HBW : Hid (B ≤ W.heap.size) := Lib.hid (Nat.le_trans hB bW.size)
  have HW := Lib.hid hW
  clear hW bW sW kW k0 kS h
  go_enter Try.func15, Try.ntmps15
  go_wp2_with fail
  rw [← HW.out]
  refine (sprog_any A L c W B HR.out HBW.out hm hm2 _ hp).mono ?_
  rintro e w1 ⟨rfl, hb1⟩
  obtain ⟨s0, s1, s2, s3, s4⟩ := five_cells (KS.out.below hb1 KS.out.lt)
  go_wp2_with fail
  refine (ret_bool hs.out (sok_any s.k s.a s.b s.c s.s w1)).mono ?_
  rintro e wS ⟨rfl, hb2⟩
  clear s0 s1 s2 s3 s4
  have hbS := below_on hb1 hb2
  clear hb2
  have hbox := (K0.out.below hbS K0.out.lt).cell 0
  simp at hbox
  have HR1 := Lib.hid (HR.out.below hbS HBW.out)
  have HB1 : Hid (B ≤ wS.heap.size) := Lib.hid (Nat.le_trans HBW.out (hbS).size)
  have K1 := Lib.hid (KW.out.below hbS KW.out.lt)
  have K01 := Lib.hid (K0.out.below hbS K0.out.lt)
  have KS1 := Lib.hid (KS.out.below hbS KS.out.lt)
  have B1 := Lib.hid (below_on BW.out hbS)
  have S1 : Hid (w.heap.size + 1 + 1 < wS.heap.size) := Lib.hid K1.out.lt
  clear hb1
  clear hbS
  obtain ⟨b, off, xs', Ai, ci, rfl, hbB, hx', hx0, hlx, hmx, hA0, hrow⟩ := HR1.out.cap_ hk
  obtain rfl : xs' = xs := by
    have := hx.out
    rw [hx'] at this
    injection this
  have Hrow := Lib.hid hrow
  have hx0' := hx0
  have Hx0 := Lib.hid hx0'
  clear hx' hmx hA0 hrow hx0'
  have hi1 : (k : Int) < (L.length : Int) := by omega
  have hbw1 : b < wS.heap.size := by have := HB1.out; omega
  go_wp2_with (first | (go_at_call 47; (first | (with_reducible refine (ret_bool hv.out (l1In_any (k : Int) 0 ((L.length : Int) - 1) _)).mono ?_) | (with_reducible refine (ret_bool hv2.out (l1In_any (a : Int) 0 (xs'.length : Int) _)).mono ?_)); rintro e w' ⟨rfl, rfl⟩) | (go_at_call 48; refine (l1Copy_any (some ⟨b, off, none⟩) L c wS B HR1.out HB1.out hm hm2).mono ?_; rintro e w2 ⟨Ac, cc, hs2, rfl, hb2, own2, hh2⟩; have B12 := Lib.hid hb2; have Own2 := Lib.hid own2; have Hh2 := Lib.hid hh2; clear hb2 own2 hh2))
  obtain ⟨gc, cc', eA, hgc, hgl⟩ := Own2.out.form (show 0 < L.length by omega)
  injection eA with e1 _ e3
  subst e1
  subst e3
  obtain ⟨V, hV⟩ : ∃ V, V = w2.alloc (.cells #[.slice (some ⟨gc, 0, none⟩) L.length cc] 25) := ⟨_, rfl⟩
  have bV : Below w2.heap.size w2 V := by rw [hV]; go_grown
  have sV : V.heap.size = w2.heap.size + 1 := by rw [hV]; simp
  have kV : Bk V w2.heap.size 25 #[.slice (some ⟨gc, 0, none⟩) L.length cc] := by rw [hV]; exact Bk.new _ _ _
  have start : Hid ((V.alloc (.cells #[] 27)).ownsRow V.heap.size 27 5 (.slice (some ⟨w2.heap.size + 1, 0, none⟩) 0 0) 0 (flat [])) := Lib.hid (by
    have := World.ownsRow_made (base := V.heap.size) (e := 27) (size := 5) V #[] 0 (Nat.le_refl _) (by decide) (by simp)
    rwa [sV] at this ⊢)
  rw [← hV]
  have BV := Lib.hid bV
  have SV := Lib.hid sV
  have KV := Lib.hid kV
  have B1V := Lib.hid (below_on B12.out bV)
  have hgc1 : wS.heap.size ≤ gc := hgc
  clear hV bV sV kV hbox hx0 hgc
  go_loopw [11, 12] (fun l j wr => ∃ (m g cap : Nat) (zs : List Sm), m ≤ xs'.length + 1 ∧ j = .int .i64 m ∧ l = .slice (some ⟨g, 0, none⟩) zs.length cap ∧ V.heap.size ≤ g ∧ Hid (preR xs' a s m = zs) ∧ wr.ownsRow V.heap.size 27 5 (.slice (some ⟨g, 0, none⟩) zs.length cap) zs.length (flat zs) ∧ Below V.heap.size V wr) (fun _ j _ => xs'.length + 1 - (intOf j).toNat)
  case atStart => exact ⟨0, _, 0, [], Nat.zero_le _, rfl, rfl, by rw [SV.out]; exact Nat.le_refl _, Lib.hid rfl, start.out, (Below.refl _ _).alloc (Nat.le_refl _) _⟩
  case round =>
    obtain ⟨m, g, cap, zs, hmm, rfl, rfl, hgg, hzs, hown, hbel⟩ := hrel
    clear start
    have B1r := below_on B1V.out hbel
    have hbox := (K01.out.below B1r K01.out.lt).cell 0
    simp at hbox
    have hx0 := (B1r.cell (p := ⟨b, off + k, none⟩) hbw1).trans Hx0.out
    have hz0 := hbel.size
    by_cases hlm : m ≤ xs'.length
    · obtain ⟨s0, s1, s2, s3, s4⟩ := five_cells (KS1.out.below B1r KS1.out.lt)
      have hzl : zs.length ≤ 100 := by rw [← hzs.out]; have := preR_len xs' a s m; omega
      have Hown := Lib.hid hown
      have Hbel := Lib.hid hbel
      have hsS : w.heap.size + 1 < wS.heap.size := by have := S1.out; omega
      have hs0 : w.heap.size < wS.heap.size := by omega
      have hr1 := B1r.size
      have HB1r := Lib.hid B1r
      have hlS := Nat.lt_of_lt_of_le hsS hr1
      have hl0 := Nat.lt_of_lt_of_le hs0 hr1
      have hlb := Nat.lt_of_lt_of_le hbw1 hr1
      by_cases hlt : m < xs'.length
      · obtain ⟨b', off', x, rfl, hb', hx', -, hx0', hx1', hx2', hx3', hx4'⟩ := (Hrow.out.below B1r HB1.out).at_ hlt
        have Hx' := Lib.hid hx'
        have hbS' := Nat.lt_of_lt_of_le hb' HB1.out
        have hlb' := Nat.lt_of_lt_of_le (Nat.lt_of_lt_of_le hb' HB1.out) hr1
        clear hx' hown hbel B1r
        by_cases hma : m = a
        · subst hma
          have hq : ((m : Int) == (m : Int)) = true := by simp
          have Hfin : Hid (preR xs' m s (m + 1) = zs ++ [s] ++ [x]) := Lib.hid (by rw [preR, hzs.out, if_pos rfl, Hx'.out, List.append_assoc]; rfl)
          go_wp2_with (first
            | (at_builtin; refine wpList_append_own _ rfl (.tmp 58) (.tmp 60) 37 rfl V.heap.size 27 i0 _ 5 40 Try.underlying37 hi iz0 iz1 iz2 rfl (by decide) _ zs.length _ rfl (Hown.out.alloc _) ⟨_, 0, none⟩ 1 1 s.cells rfl rfl (cells_new _ s) (cells_one s) (by unfold maxLen; omega) (by omega) (by have := (Hbel).out.size; simp; omega) ?_; intro v' w3 own3 grow3 _; obtain ⟨g3, cap3, rfl, hg3, hlt3⟩ := own3.form (by omega); have Own3 := Lib.hid own3; have Bel3 := Lib.hid (((Hbel).out.alloc (Hbel).out.size _).grown grow3 (by have := (Hbel).out.size; simp; omega) (by intro q hq; cases hq; exact hgg)); have B3r := below_on B1V.out Bel3.out; have hk3 : ∀ p o, p < wS.heap.size → w3.cell? ⟨p, o, none⟩ = World.cell? _ ⟨p, o, none⟩ := fun p o hp => (B3r.cell (p := ⟨p, o, none⟩) hp).trans (HB1r.out.cell (p := ⟨p, o, none⟩) hp).symm; have hl03 := Nat.lt_of_lt_of_le hs0 B3r.size; have hlb3 := Nat.lt_of_lt_of_le hbw1 B3r.size; have hlb3' := Nat.lt_of_lt_of_le hbS' B3r.size; clear own3 grow3 B3r)
            | (at_builtin; refine wpList_append_own _ rfl (.tmp 70) (.tmp 79) 37 rfl V.heap.size 27 i0 _ 5 40 Try.underlying37 hi iz0 iz1 iz2 rfl (by decide) _ (zs.length + 1) _ rfl (Own3.out.alloc _) ⟨_, 0, none⟩ 1 1 x.cells rfl rfl (cells_new _ x) (cells_one x) (by unfold maxLen; omega) (by omega) (by have := (Bel3).out.size; simp; omega) ?_; intro v' w4 own4 grow4 _; obtain ⟨g4, cap4, rfl, hg4, hlt4⟩ := own4.form (by omega); have Own4 := Lib.hid own4; have Bel4 := Lib.hid (((Bel3).out.alloc (Bel3).out.size _).grown grow4 (by have := (Bel3).out.size; simp; omega) (by intro q hq; cases hq; exact hg3)); clear own4 grow4))
          go_roundw
          case rel => exact ⟨m + 1, g4, cap4, zs ++ [s] ++ [x], by omega, by go_num, by simp, hg4, Hfin, by have := Own4.out; rw [flat_append, flat_append, List.length_append, List.length_append, List.length_singleton, List.length_singleton]; simpa [flat] using this, Bel4.out⟩
          case measure => simp [intOf]; omega
        · have hq : ((m : Int) == (a : Int)) = false := by simp; omega
          have Hfin : Hid (preR xs' a s (m + 1) = zs ++ [x]) := Lib.hid (by rw [preR, hzs.out, if_neg hma, Hx'.out]; rfl)
          clear hma
          go_wp2_with (at_builtin; refine wpList_append_own _ rfl (.tmp 70) (.tmp 79) 37 rfl V.heap.size 27 i0 _ 5 40 Try.underlying37 hi iz0 iz1 iz2 rfl (by decide) _ zs.length _ rfl (Hown.out.alloc _) ⟨_, 0, none⟩ 1 1 x.cells rfl rfl (cells_new _ x) (cells_one x) (by unfold maxLen; omega) (by omega) (by have := (Hbel).out.size; simp; omega) ?_; intro v' w4 own4 grow4 _; obtain ⟨g4, cap4, rfl, hg4, hlt4⟩ := own4.form (by omega); have Own4 := Lib.hid own4; have Bel4 := Lib.hid (((Hbel).out.alloc (Hbel).out.size _).grown grow4 (by have := (Hbel).out.size; simp; omega) (by intro q hq; cases hq; exact hgg)); clear own4 grow4)
          go_roundw
          case rel => exact ⟨m + 1, g4, cap4, zs ++ [x], by omega, by go_num, by simp, hg4, Hfin, by have := Own4.out; rw [flat_append, List.length_append, List.length_singleton]; simpa [flat] using this, Bel4.out⟩
          case measure => simp [intOf]; omega
      · have hml : m = xs'.length := by omega
        subst hml
        have hxn : xs'[xs'.length]? = none := List.getElem?_eq_none (Nat.le_refl _)
        have Hxn := Lib.hid hxn
        clear hown hbel B1r hlt hxn
        by_cases hma : xs'.length = a
        · have hq : ((xs'.length : Int) == (a : Int)) = true := by simp [hma]
          have Hfin : Hid (preR xs' a s (xs'.length + 1) = zs ++ [s]) := Lib.hid (by rw [preR, hzs.out, if_pos hma, Hxn.out]; rfl)
          clear hma
          go_wp2_with (at_builtin; refine wpList_append_own _ rfl (.tmp 58) (.tmp 60) 37 rfl V.heap.size 27 i0 _ 5 40 Try.underlying37 hi iz0 iz1 iz2 rfl (by decide) _ zs.length _ rfl (Hown.out.alloc _) ⟨_, 0, none⟩ 1 1 s.cells rfl rfl (cells_new _ s) (cells_one s) (by unfold maxLen; omega) (by omega) (by have := (Hbel).out.size; simp; omega) ?_; intro v' w3 own3 grow3 _; obtain ⟨g3, cap3, rfl, hg3, hlt3⟩ := own3.form (by omega); have Own3 := Lib.hid own3; have Bel3 := Lib.hid (((Hbel).out.alloc (Hbel).out.size _).grown grow3 (by have := (Hbel).out.size; simp; omega) (by intro q hq; cases hq; exact hgg)); have B3r := below_on B1V.out Bel3.out; have hk3 : ∀ p o, p < wS.heap.size → w3.cell? ⟨p, o, none⟩ = World.cell? _ ⟨p, o, none⟩ := fun p o hp => (B3r.cell (p := ⟨p, o, none⟩) hp).trans (HB1r.out.cell (p := ⟨p, o, none⟩) hp).symm; have hl03 := Nat.lt_of_lt_of_le hs0 B3r.size; have hlb3 := Nat.lt_of_lt_of_le hbw1 B3r.size; clear own3 grow3 B3r)
          go_roundw
          case rel => exact ⟨xs'.length + 1, g3, cap3, zs ++ [s], by omega, by go_num, by simp, hg3, Hfin, by have := Own3.out; rw [flat_append, List.length_append, List.length_singleton]; simpa [flat] using this, Bel3.out⟩
          case measure => simp [intOf]
        · have hq : ((xs'.length : Int) == (a : Int)) = false := by simp; omega
          have Hfin : Hid (preR xs' a s (xs'.length + 1) = zs) := Lib.hid (by rw [preR, hzs.out, if_neg hma, Hxn.out]; simp)
          clear hma
          go_wp2
          go_roundw
          case rel => exact ⟨xs'.length + 1, g, cap, zs, by omega, by go_num, rfl, hgg, Hfin, Hown.out, Hbel.out⟩
          case measure => simp [intOf]
    · have hml : m = xs'.length + 1 := by omega
      subst hml
      have hzx : splice xs' a a [s] = zs := by rw [← hzs.out, preR_done s ha]
      obtain ⟨cur, hcur, hcs⟩ : ∃ cur, Bk w2 gc 37 cur ∧ k < cur.size := by
        rcases Own2.out.2 with ⟨h0, _⟩ | ⟨gc', cc', cur, hv', _, hh0, h1, _, h3, _⟩
        · simp at h0
        · simp only [Value.slice.injEq, Option.some.injEq, Addr.mk.injEq, and_true, true_and] at hv'
          obtain ⟨rfl, rfl⟩ := hv'
          exact ⟨cur, hh0, by omega⟩
      have bw2 := below_on BV.out hbel
      have hz12 := B12.out.size
      have hs1 := S1.out
      have kg := hcur.below bw2 hcur.lt
      obtain ⟨v0, cg⟩ := kg.some_ hcs
      have fg := kg.free k
      have kt := KV.out.below hbel KV.out.lt
      have kr := K1.out.below B1r K1.out.lt
      have kt2 := kt.far (p := ⟨gc, k, none⟩) (by show w2.heap.size ≠ gc; omega) (.slice (some ⟨g, 0, none⟩) zs.length cap)
      have ct2 := kt2.cell 0
      have kr2 := kr.far (p := ⟨gc, k, none⟩) (by show w.heap.size + 1 + 1 ≠ gc; omega) (.slice (some ⟨g, 0, none⟩) zs.length cap)
      have ct := kt.cell 0
      simp at ct ct2
      have put := put_done (k := k) (zs := zs) Own2.out Hh2.out bw2 (Joins.ownsRow_le hown (by have := SV.out; omega)) hz12
      have hzw := hbel.size
      have bf := (below_on B1.out B1r).setCell (p := ⟨gc, k, none⟩) (by show _ ≤ gc; omega) (.slice (some ⟨g, 0, none⟩) zs.length cap)
      obtain ⟨U, hU⟩ : ∃ U, U = World.setCell _ ⟨gc, k, none⟩ (.slice (some ⟨g, 0, none⟩) zs.length cap) := ⟨wr.setCell ⟨gc, k, none⟩ (.slice (some ⟨g, 0, none⟩) zs.length cap), rfl⟩
      rw [← hU] at kt2 kr2 put bf
      have zU : wr.heap.size = U.heap.size := by rw [hU, World.size_setCell]
      have HU := Lib.hid hU
      obtain ⟨E, hE⟩ : ∃ E, E = L.set k zs := ⟨_, rfl⟩
      rw [← hE] at put
      have hEl : E.length = L.length := by rw [hE, List.length_set]
      have hEm : ∀ ys ∈ E, ys.length ≤ 1048576 := by
        intro ys hy
        rw [hE] at hy
        rcases List.mem_or_eq_of_mem_set hy with h1 | h1
        · exact hm2.out ys h1
        · subst h1; rw [← hzx, splice_length (Nat.le_refl _) ha]; simp; omega
      have hsp := sprog_any (some ⟨gc, 0, none⟩) E cc U wr.heap.size put.rows (by omega) (by omega) (Lib.hid hEm) r (Lib.hid (by rw [hE, ← hzx]; exact hr.out))
      rw [hEl] at hsp
      have HEq : Hid ((if r then E else []) = E') := Lib.hid (by rw [hE, ← hzx]; exact hE'.out)
      have HEl := Lib.hid hEl
      have Kt2 := Lib.hid kt2
      have Kr2 := Lib.hid kr2
      have Put := Lib.hid put
      have Bf := Lib.hid bf
      have Hsp := Lib.hid hsp
      have hwlo : w.heap.size + 1 + 1 < wS.heap.size := hs1
      clear hzx hcur hcs bw2 kg kt kr kr2 kt2 hown hbel B1r hzs hU hE hEl hEm hsp put bf
      go_wp2_with fail
      rw [← HU.out]
      refine Hsp.out.mono ?_
      rintro e w5 ⟨rfl, hb5⟩
      have k4 := Kr2.out.below hb5 Kr2.out.lt
      have c4 := k4.cell 0
      have f4 := k4.free 0
      have u4 := (Kt2.out.below hb5 Kt2.out.lt).cell 0
      have hresN := (k4.set 0 (.slice none 0 0)).cell 0
      have hresY := (k4.set 0 (.slice (some ⟨gc, 0, none⟩) L.length cc)).cell 0
      have B5 := Lib.hid (Bf.out.trans (hb5.mono (by have := Bf.out.size; omega)))
      have P5 := Lib.hid (Put.out.below hb5 (by omega))
      have hz5 := hb5.size
      simp at c4 u4
      clear hb5 k4
      cases r
      · have hN : Hid (E' = []) := Lib.hid (by rw [← HEq.out]; rfl)
        clear hresY
        go_wp2
        refine bodyPost_ret (v := .tuple #[.agg #[.slice none 0 0], .bool false]) (by simp [results, Try.results15, hresN, go_sem]) rfl ?_
        rw [hN.out]
        exact ⟨none, 0, rfl, B5.out.setCell (by show _ ≤ w.heap.size + 1 + 1; omega) _, fun hn => absurd hn (by simp)⟩
      · have hY : Hid (E' = E) := Lib.hid (by rw [← HEq.out]; rfl)
        clear hresN
        go_wp2
        refine bodyPost_ret (v := .tuple #[.agg #[.slice (some ⟨gc, 0, none⟩) L.length cc], .bool true]) (by simp [results, Try.results15, hresY, go_sem]) rfl ?_
        rw [hY.out]
        refine ⟨some ⟨gc, 0, none⟩, cc, by rw [HEl.out], B5.out.setCell (by show _ ≤ w.heap.size + 1 + 1; omega) _, ?_⟩
        refine P5.out.keep (by omega) (by simp only [World.size_setCell]; omega) fun i hi _ => Below.heap_setCell _ _ _ i (by show i ≠ w.heap.size + 1 + 1; omega)

theorem swith_any (A : Option Addr) (L : List (List Sm)) (c : Nat) (th at_ : Int) (s : Sm) (w : World) (B : Nat) (h : Rows2 w B A L) (hB : B ≤ w.heap.size) (hm : L.length ≤ 1048576) (hm2 : Hid (∀ xs ∈ L, xs.length ≤ 1048576)) :
    Calls Try.prog 15 #[.agg #[.slice A L.length c], .int .i64 th, .int .i64 at_, s.val] w (AnswerI w (wiE L th at_ s) (wiB L th at_ s)) := by
  rcases Bool.eq_false_or_eq_true (progB L) with h1 | h1
  · rcases Bool.eq_false_or_eq_true (okB s.k s.a s.b s.c s.s) with hs | hs
    · rcases Bool.eq_false_or_eq_true (inB th 0 ((L.length : Int) - 1)) with h1b | h1b
      · have h1' := inB_iff.1 h1b
        obtain ⟨k, rfl⟩ := Int.eq_ofNat_of_zero_le h1'.1
        have hk : k < L.length := by omega
        have hx : L[k]? = some L[k] := List.getElem?_eq_getElem hk
        have hg : L.getD (k : Int).toNat [] = L[k] := by rw [Int.toNat_natCast, List.getD, hx]; rfl
        have hX : wiX L (k : Int) at_ s = L.set k (splice L[k] at_.toNat at_.toNat [s]) := by rw [wiX, hg, Int.toNat_natCast]
        rcases Bool.eq_false_or_eq_true (inB at_ 0 (L[k].length : Int)) with h2 | h2
        · have e : wiB L (k : Int) at_ s = progB (wiX L (k : Int) at_ s) := by rw [wiB, hasB, h1, h1b, hg, h2]; rfl
          rw [wiE, e, hX]
          exact swith_yes A L L[k] c k at_ s w B h hB hm hm2 (Lib.hid h1) (Lib.hid hs) (Lib.hid h1b) (Lib.hid hx) (Lib.hid h2) _ (Lib.hid rfl) _ (Lib.hid rfl)
        · have e : wiB L (k : Int) at_ s = false := by rw [wiB, hasB, h1, h1b, hg, h2]; rfl
          rw [wiE, e, if_neg (by simp)]
          exact swith_mid A L L[k] c k at_ s w B h hB hm hm2 (Lib.hid h1) (Lib.hid hs) (Lib.hid h1b) (Lib.hid hx) (Lib.hid h2)
      · have e : wiB L th at_ s = false := by rw [wiB, hasB, h1, h1b]; rfl
        rw [wiE, e, if_neg (by simp)]
        exact swith_no2 A L c th at_ s w B h hB hm hm2 (Lib.hid h1) (Lib.hid hs) (Lib.hid h1b)
    · have e : wiB L th at_ s = false := by
        rw [Bool.eq_false_iff]
        intro e
        simp only [wiB, hasB, Bool.and_eq_true, inB_iff] at e
        obtain ⟨⟨⟨_, ht⟩, _⟩, hp⟩ := e
        have hk : th.toNat < L.length := by omega
        have hmem : splice (L.getD th.toNat []) at_.toNat at_.toNat [s] ∈ wiX L th at_ s := List.mem_set hk _
        simp only [progB, Bool.and_eq_true, List.all_eq_true] at hp
        have ht2 := hp.2.1 _ hmem
        simp only [thrB, Bool.and_eq_true, List.all_eq_true] at ht2
        have := ht2.2 s (by simp [splice])
        rw [show s.okb = false from hs] at this
        cases this
      rw [wiE, e, if_neg (by simp)]
      exact swith_noS A L c th at_ s w B h hB hm hm2 (Lib.hid h1) (Lib.hid hs)
  · have e : wiB L th at_ s = false := by rw [wiB, hasB, h1]; rfl
    rw [wiE, e, if_neg (by simp)]
    exact swith_no1 A L c th at_ s w B h hB hm hm2 (Lib.hid h1)

end Go.Proofs.Ytjbgjhcljmikcaa
