/-
  The contract of the program's With, over plain lists, whatever the program and the memory.
-/
import Derived.Test.YtjbgjhcljmikcaaWithout
namespace Go.Proofs.Ytjbgjhcljmikcaa
open Go.RowKit Pl
set_option maxHeartbeats 1000000
set_option linter.unusedVariables false

def wiX (L : List (List Sm)) (th at_ : Int) (s : Sm) : List (List Sm) := L.set th.toNat (splice (L.getD th.toNat []) at_.toNat at_.toNat [s])
def wiB (L : List (List Sm)) (th at_ : Int) (s : Sm) : Bool := hasB L th && inB at_ 0 ((L.getD th.toNat []).length : Int) && progB (wiX L th at_ s)
def wiE (L : List (List Sm)) (th at_ : Int) (s : Sm) : List (List Sm) := if wiB L th at_ s then wiX L th at_ s else []

/-- The three blocks that With begins with. -/
def World3 (w W : World) (A : Option Addr) (n c : Nat) (s : Sm) : Prop :=
  Below w.heap.size w W ∧ W.heap.size = w.heap.size + 1 + 1 + 1 ∧ Bk W w.heap.size 25 #[.slice A n c] ∧ Bk W (w.heap.size + 1) 27 #[.int .i64 s.k, .int .i64 s.a, .int .i64 s.b, .int .i64 s.c, .bool s.s] ∧ Bk W (w.heap.size + 1 + 1) 25 #[.slice none 0 0]
theorem world3 (w : World) (A : Option Addr) (n c : Nat) (s : Sm) : World3 w (((w.alloc (.cells #[.slice A n c] 25)).alloc (.cells #[.int .i64 s.k, .int .i64 s.a, .int .i64 s.b, .int .i64 s.c, .bool s.s] 27)).alloc (.cells #[.slice none 0 0] 25)) A n c s := by
  refine ⟨by go_grown, by simp, ((Bk.new w #[.slice A n c] 25).alloc _).alloc _, ?_, ?_⟩
  · have := (Bk.new (w.alloc (.cells #[.slice A n c] 25)) #[.int .i64 s.k, .int .i64 s.a, .int .i64 s.b, .int .i64 s.c, .bool s.s] 27).alloc (.cells #[.slice none 0 0] 25)
    rwa [World.size_alloc] at this
  · have := Bk.new ((w.alloc (.cells #[.slice A n c] 25)).alloc (.cells #[.int .i64 s.k, .int .i64 s.a, .int .i64 s.b, .int .i64 s.c, .bool s.s] 27)) #[.slice none 0 0] 25
    rwa [World.size_alloc, World.size_alloc] at this
theorem five_cells {w : World} {b : Nat} {t : TypeId} {s : Sm} (h : Bk w b t #[.int .i64 s.k, .int .i64 s.a, .int .i64 s.b, .int .i64 s.c, .bool s.s]) :
    w.cell? ⟨b, 0, none⟩ = some (.int .i64 s.k) ∧ w.cell? ⟨b, 1, none⟩ = some (.int .i64 s.a) ∧ w.cell? ⟨b, 2, none⟩ = some (.int .i64 s.b) ∧ w.cell? ⟨b, 3, none⟩ = some (.int .i64 s.c) ∧ w.cell? ⟨b, 4, none⟩ = some (.bool s.s) :=
  ⟨h.cell 0, h.cell 1, h.cell 2, h.cell 3, h.cell 4⟩
theorem row_one (w : World) (s : Sm) : Row (w.alloc (.cells #[.int .i64 s.k, .int .i64 s.a, .int .i64 s.b, .int .i64 s.c, .bool s.s] 27)) (w.heap.size + 1) (some ⟨w.heap.size, 0, none⟩) [s] := fun _ => by
  refine ⟨w.heap.size, 0, rfl, by omega, fun j x hj => ?_⟩
  cases j with
  | zero =>
    simp at hj; subst hj
    exact five_cells (Bk.new w _ _)
  | succ j => simp at hj

theorem iwith_no (A : Option Addr) (L : List (List Sm)) (c : Nat) (th at_ : Int) (s : Sm) (w : World) (B : Nat) (h : Rows2 w B A L) (hB : B ≤ w.heap.size) (hm : L.length ≤ 1048576) (hr : Hid (hasB L th = false)) :
    Calls Try.prog 14 #[.agg #[.slice A L.length c], .int .i64 th, .int .i64 at_, s.val] w (Answer w [] false) := by
  obtain ⟨W, hW⟩ : ∃ W, W = ((w.alloc (.cells #[.slice A L.length c] 25)).alloc (.cells #[.int .i64 s.k, .int .i64 s.a, .int .i64 s.b, .int .i64 s.c, .bool s.s] 27)).alloc (.cells #[.slice none 0 0] 25) := ⟨_, rfl⟩
  obtain ⟨bW, sW, k0, kS, kW⟩ : World3 w W A L.length c s := by rw [hW]; exact world3 ..
  have BW := Lib.hid bW
  have KW := Lib.hid kW
  have HR := Lib.hid (h.below bW hB)
  have HBW : Hid (B ≤ W.heap.size) := Lib.hid (Nat.le_trans hB bW.size)
  have HW := Lib.hid hW
  clear hW bW kW k0 kS sW h
  go_enter Try.func14, Try.ntmps14
  go_wp2_with fail
  rw [← HW.out]
  refine (ihas_any A L c th W B HR.out HBW.out hm _ hr).mono ?_
  rintro e w1 ⟨rfl, hb1⟩
  have k1 := KW.out.below hb1 KW.out.lt
  have c1 := k1.cell 0
  have f1 := k1.free 0
  have hres := (k1.set 0 (.slice none 0 0)).cell 0
  have hB1 := Lib.hid (below_on BW.out hb1)
  simp at c1
  clear hb1 k1
  go_wp2
  refine bodyPost_ret (v := .tuple #[.agg #[.slice none 0 0], .bool false]) (by simp [results, Try.results14, hres, go_sem]) rfl ?_
  exact ⟨none, 0, rfl, hB1.out.setCell (by show _ ≤ w.heap.size + 1 + 1; omega) _, fun hn => absurd hn (by simp)⟩

theorem iwith_mid (A : Option Addr) (L : List (List Sm)) (xs : List Sm) (c k : Nat) (at_ : Int) (s : Sm) (w : World) (B : Nat) (h : Rows2 w B A L) (hB : B ≤ w.heap.size) (hm : L.length ≤ 1048576) (hm2 : Hid (∀ xs ∈ L, xs.length ≤ 6)) (hr : Hid (hasB L (k : Int) = true)) (hx : Hid (L[k]? = some xs)) (hv : Hid (inB at_ 0 (xs.length : Int) = false)) :
    Calls Try.prog 14 #[.agg #[.slice A L.length c], .int .i64 (k : Int), .int .i64 at_, s.val] w (Answer w [] false) := by
  have hk : k < L.length := (List.getElem?_eq_some_iff.1 hx.out).1
  obtain ⟨W, hW⟩ : ∃ W, W = ((w.alloc (.cells #[.slice A L.length c] 25)).alloc (.cells #[.int .i64 s.k, .int .i64 s.a, .int .i64 s.b, .int .i64 s.c, .bool s.s] 27)).alloc (.cells #[.slice none 0 0] 25) := ⟨_, rfl⟩
  obtain ⟨bW, sW, k0, kS, kW⟩ : World3 w W A L.length c s := by rw [hW]; exact world3 ..
  have BW := Lib.hid bW
  have SW := Lib.hid sW
  have KW := Lib.hid kW
  have K0 := Lib.hid k0
  have KS := Lib.hid kS
  have HR := Lib.hid (h.below bW hB)
  have HBW : Hid (B ≤ W.heap.size) := Lib.hid (Nat.le_trans hB bW.size)
  have HW := Lib.hid hW
  have Hlen : xs.length ≤ 6 := hm2.out xs (List.mem_of_getElem? hx.out)
  clear hW bW sW kW k0 kS h
  go_enter Try.func14, Try.ntmps14
  go_wp2_with fail
  rw [← HW.out]
  refine (ihas_any A L c k W B HR.out HBW.out hm _ hr).mono ?_
  rintro e w1 ⟨rfl, hb1⟩
  have hbox := (K0.out.below hb1 K0.out.lt).cell 0
  simp at hbox
  obtain ⟨s0, s1, s2, s3, s4⟩ := five_cells (KS.out.below hb1 KS.out.lt)
  have HR1 := Lib.hid (HR.out.below hb1 HBW.out)
  have HB1 : Hid (B ≤ w1.heap.size) := Lib.hid (Nat.le_trans HBW.out hb1.size)
  have K1 := Lib.hid (KW.out.below hb1 KW.out.lt)
  have B1 := Lib.hid (below_on BW.out hb1)
  have S1 : Hid (w.heap.size + 1 + 1 < w1.heap.size) := Lib.hid K1.out.lt
  clear hb1
  obtain ⟨b, off, xs', Ai, ci, rfl, -, hx', hx0, hlx, hmx, hA0, hrow⟩ := HR1.out.cap_ hk
  obtain rfl : xs' = xs := by
    have := hx.out
    rw [hx'] at this
    injection this
  clear hx' hmx hA0 hrow
  have hi1 : (k : Int) < (L.length : Int) := by omega
  have c1 := K1.out.cell 0
  have f1 := K1.out.free 0
  have hres := (K1.out.set 0 (.slice none 0 0)).cell 0
  simp at c1
  go_wp2_with (go_at_call 45; refine (ret_bool hv.out (within_any at_ 0 (xs'.length : Int) _)).mono ?_; rintro e w' ⟨rfl, rfl⟩)
  refine bodyPost_ret (v := .tuple #[.agg #[.slice none 0 0], .bool false]) (by simp [results, Try.results14, hres, go_sem]) rfl ?_
  exact ⟨none, 0, rfl, B1.out.setCell (by show _ ≤ w.heap.size + 1 + 1; omega) _, fun hn => absurd hn (by simp)⟩

theorem iwith_yes (A : Option Addr) (L : List (List Sm)) (xs : List Sm) (c k : Nat) (at_ : Int) (s : Sm) (w : World) (B : Nat) (h : Rows2 w B A L) (hB : B ≤ w.heap.size) (hm : L.length ≤ 1048576) (hm2 : Hid (∀ xs ∈ L, xs.length ≤ 6)) (hr : Hid (hasB L (k : Int) = true)) (hx : Hid (L[k]? = some xs)) (hv : Hid (inB at_ 0 (xs.length : Int) = true))(r : Bool) (hp : Hid (progB (L.set k (splice xs at_.toNat at_.toNat [s])) = r)) (E' : List (List Sm)) (hE' : Hid ((if r then L.set k (splice xs at_.toNat at_.toNat [s]) else []) = E')) :
    Calls Try.prog 14 #[.agg #[.slice A L.length c], .int .i64 (k : Int), .int .i64 at_, s.val] w (Answer w E' r) := by
  have hk : k < L.length := (List.getElem?_eq_some_iff.1 hx.out).1
  obtain ⟨W, hW⟩ : ∃ W, W = ((w.alloc (.cells #[.slice A L.length c] 25)).alloc (.cells #[.int .i64 s.k, .int .i64 s.a, .int .i64 s.b, .int .i64 s.c, .bool s.s] 27)).alloc (.cells #[.slice none 0 0] 25) := ⟨_, rfl⟩
  obtain ⟨bW, sW, k0, kS, kW⟩ : World3 w W A L.length c s := by rw [hW]; exact world3 ..
  have BW := Lib.hid bW
  have SW := Lib.hid sW
  have KW := Lib.hid kW
  have K0 := Lib.hid k0
  have KS := Lib.hid kS
  have HR := Lib.hid (h.below bW hB)
  have HBW : Hid (B ≤ W.heap.size) := Lib.hid (Nat.le_trans hB bW.size)
  have HW := Lib.hid hW
  have Hlen : xs.length ≤ 6 := hm2.out xs (List.mem_of_getElem? hx.out)
  clear hW bW sW kW k0 kS h
  go_enter Try.func14, Try.ntmps14
  go_wp2_with fail
  rw [← HW.out]
  refine (ihas_any A L c k W B HR.out HBW.out hm _ hr).mono ?_
  rintro e w1 ⟨rfl, hb1⟩
  have hbox := (K0.out.below hb1 K0.out.lt).cell 0
  simp at hbox
  obtain ⟨s0, s1, s2, s3, s4⟩ := five_cells (KS.out.below hb1 KS.out.lt)
  have HR1 := Lib.hid (HR.out.below hb1 HBW.out)
  have HB1 : Hid (B ≤ w1.heap.size) := Lib.hid (Nat.le_trans HBW.out hb1.size)
  have K1 := Lib.hid (KW.out.below hb1 KW.out.lt)
  have B1 := Lib.hid (below_on BW.out hb1)
  have S1 : Hid (w.heap.size + 1 + 1 < w1.heap.size) := Lib.hid K1.out.lt
  clear hb1
  obtain ⟨b, off, xs', Ai, ci, rfl, -, hx', hx0, hlx, hmx, hA0, hrow⟩ := HR1.out.cap_ hk
  obtain rfl : xs' = xs := by
    have := hx.out
    rw [hx'] at this
    injection this
  clear hx' hmx hA0 hrow
  have hi1 : (k : Int) < (L.length : Int) := by omega
  have hat := inB_iff.1 hv.out
  have hlS : w.heap.size + 1 < w1.heap.size := by have := S1.out; omega
  have hl0 : w.heap.size < w1.heap.size := by omega
  go_wp2_with (go_at_call 45; refine (ret_bool hv.out (within_any at_ 0 (xs'.length : Int) _)).mono ?_; rintro e w' ⟨rfl, rfl⟩)
  obtain ⟨V, hV⟩ : ∃ V, V = w1.alloc (.cells #[.int .i64 s.k, .int .i64 s.a, .int .i64 s.b, .int .i64 s.c, .bool s.s] 27) := ⟨_, rfl⟩
  rw [← hV]
  have bV : Below w1.heap.size w1 V := by rw [hV]; go_grown
  have sV : V.heap.size = w1.heap.size + 1 := by rw [hV]; simp
  have rV : Row V V.heap.size (some ⟨w1.heap.size, 0, none⟩) [s] := by rw [sV, hV]; exact row_one w1 s
  have hcall := edited_any (some ⟨b, off, none⟩) (some ⟨w1.heap.size, 0, none⟩) L xs' [s] c 1 (k : Int) at_ at_ V V.heap.size (HR1.out.up bV HB1.out (by have := HB1.out; omega)) rV (Nat.le_refl _) hm (Lib.hid (fun ys hy => by have := hm2.out ys hy; omega)) (by simp) (by simp) (Lib.hid (fun e => by cases e)) (by omega) (Lib.hid (by rw [Int.toNat_natCast]; exact hx.out)) (by omega) (by omega) (by omega)
  rw [Int.toNat_natCast] at hcall
  obtain ⟨E, hE⟩ : ∃ E, E = L.set k (splice xs' at_.toNat at_.toNat [s]) := ⟨_, rfl⟩
  rw [← hE] at hcall
  have hEl : E.length = L.length := by rw [hE, List.length_set]
  have HEq := Lib.hid hE
  have HEl := Lib.hid hEl
  have BV := Lib.hid (below_on B1.out bV)
  have SV := Lib.hid sV
  have KV := Lib.hid (K1.out.below bV K1.out.lt)
  clear hE hEl hV bV sV rV hbox hx0 s0 s1 s2 s3 s4
  refine hcall.mono ?_
  clear hcall
  rintro e w2 ⟨A2, c2, rfl, hb2, own2⟩
  have K2 := Lib.hid (KV.out.below hb2 KV.out.lt)
  have B2 := Lib.hid (below_on BV.out hb2)
  have O2 := Lib.hid own2
  have S2 : Hid (w1.heap.size + 1 ≤ w2.heap.size) := Lib.hid (by have := hb2.size; have := SV.out; omega)
  clear hb2 own2
  obtain ⟨U, hU⟩ : ∃ U, U = w2.alloc (.cells #[.slice A2 E.length c2] 25) := ⟨_, rfl⟩
  have bU : Below w2.heap.size w2 U := by rw [hU]; go_grown
  have kU : Bk U w2.heap.size 25 #[.slice A2 E.length c2] := by rw [hU]; exact Bk.new _ _ _
  have HU := Lib.hid hU
  have KU := Lib.hid kU
  have B3 := Lib.hid (below_on B2.out bU)
  have K3 := Lib.hid (K2.out.below bU K2.out.lt)
  have O3 := Lib.hid (O2.out.below bU (Nat.le_refl _))
  have S3 : Hid (w2.heap.size ≤ U.heap.size) := Lib.hid bU.size
  clear hU bU kU
  go_wp2_with fail
  rw [← HU.out]
  refine (iprog_any A2 E c2 U w2.heap.size O3.out.rows S3.out (by unfold maxLen; have := HEl.out; omega) r (by rw [HEq.out]; exact hp)).mono ?_
  rintro e w4 ⟨rfl, hb4⟩
  have k4 := K3.out.below hb4 K3.out.lt
  have c4 := k4.cell 0
  have f4 := k4.free 0
  have u4 := (KU.out.below hb4 KU.out.lt).cell 0
  have hresN := (k4.set 0 (.slice none 0 0)).cell 0
  have hresY := (k4.set 0 (.slice A2 E.length c2)).cell 0
  have B4 := Lib.hid (below_on B3.out hb4)
  have O4 := Lib.hid (O3.out.below hb4 S3.out)
  have S4 : Hid (U.heap.size ≤ w4.heap.size) := Lib.hid hb4.size
  simp at c4 u4
  clear hb4 k4
  cases r
  · have hN : Hid (E' = []) := Lib.hid (by rw [← hE'.out]; rfl)
    clear hresY
    go_wp2
    refine bodyPost_ret (v := .tuple #[.agg #[.slice none 0 0], .bool false]) (by simp [results, Try.results14, hresN, go_sem]) rfl ?_
    rw [hN.out]
    exact ⟨none, 0, rfl, B4.out.setCell (by show _ ≤ w.heap.size + 1 + 1; omega) _, fun hn => absurd hn (by simp)⟩
  · have hY : Hid (E' = E) := Lib.hid (by rw [← hE'.out, HEq.out]; rfl)
    clear hresN
    go_wp2
    refine bodyPost_ret (v := .tuple #[.agg #[.slice A2 E.length c2], .bool true]) (by simp [results, Try.results14, hresY, go_sem]) rfl ?_
    rw [hY.out]
    refine ⟨A2, c2, rfl, B4.out.setCell (by show _ ≤ w.heap.size + 1 + 1; omega) _, ?_⟩
    have h1 := S1.out
    have h2 := S2.out
    have h3 := S3.out
    have h4 := S4.out
    have h5 := SV.out
    refine O4.out.keep (by omega) (by simp only [World.size_setCell]; omega) fun i hi _ => ?_
    exact Below.heap_setCell _ _ _ i (by show i ≠ w.heap.size + 1 + 1; omega)

theorem iwith_any (A : Option Addr) (L : List (List Sm)) (c : Nat) (th at_ : Int) (s : Sm) (w : World) (B : Nat) (h : Rows2 w B A L) (hB : B ≤ w.heap.size) (hm : L.length ≤ 1048576) :
    Calls Try.prog 14 #[.agg #[.slice A L.length c], .int .i64 th, .int .i64 at_, s.val] w (Answer w (wiE L th at_ s) (wiB L th at_ s)) := by
  rcases Bool.eq_false_or_eq_true (hasB L th) with h1 | h1
  · have h1' := h1
    simp only [hasB, Bool.and_eq_true, inB_iff] at h1'
    obtain ⟨k, rfl⟩ := Int.eq_ofNat_of_zero_le h1'.2.1
    have hsm := prog_small h1'.1
    have hk : k < L.length := by omega
    have hx : L[k]? = some L[k] := List.getElem?_eq_getElem hk
    have hg : L.getD (k : Int).toNat [] = L[k] := by rw [Int.toNat_natCast, List.getD, hx]; rfl
    have hX : wiX L (k : Int) at_ s = L.set k (splice L[k] at_.toNat at_.toNat [s]) := by rw [wiX, hg, Int.toNat_natCast]
    rcases Bool.eq_false_or_eq_true (inB at_ 0 (L[k].length : Int)) with h2 | h2
    · have e : wiB L (k : Int) at_ s = progB (wiX L (k : Int) at_ s) := by rw [wiB, h1, hg, h2]; rfl
      rw [wiE, e, hX]
      exact iwith_yes A L L[k] c k at_ s w B h hB hm (Lib.hid hsm.2.2) (Lib.hid h1) (Lib.hid hx) (Lib.hid h2) _ (Lib.hid rfl) _ (Lib.hid rfl)
    · have e : wiB L (k : Int) at_ s = false := by rw [wiB, h1, hg, h2]; rfl
      rw [wiE, e, if_neg (by simp)]
      exact iwith_mid A L L[k] c k at_ s w B h hB hm (Lib.hid hsm.2.2) (Lib.hid h1) (Lib.hid hx) (Lib.hid h2)
  · have e : wiB L th at_ s = false := by rw [wiB, h1]; rfl
    rw [wiE, e, if_neg (by simp)]
    exact iwith_no A L c th at_ s w B h hB hm (Lib.hid h1)

end Go.Proofs.Ytjbgjhcljmikcaa
