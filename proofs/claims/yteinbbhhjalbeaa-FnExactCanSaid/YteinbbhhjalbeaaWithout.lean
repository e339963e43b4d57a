/-
  Contracts of the program's hasThread and Without, over plain lists, whatever the program and the memory.
-/
import Derived.Test.YteinbbhhjalbeaaEdit
import Derived.Test.YteinbbhhjalbeaaIsProg
namespace Go.Proofs.Yteinbbhhjalbeaa
open Go.RowKit Pl
set_option maxHeartbeats 400000
set_option linter.unusedVariables false

/-- A program's answer: a program of the call's own, and whether there is one. -/
def Answer (w : World) (E : List (List Sm)) (ok : Bool) (e : Ending) (w' : World) : Prop :=
  ∃ A c, e = .returned (.tuple #[.agg #[.slice A E.length c], .bool ok]) ∧ Below w.heap.size w w' ∧ OwnRows2 w' w.heap.size w'.heap.size A E
def hasB (L : List (List Sm)) (th : Int) : Bool := progB L && inB th 0 ((L.length : Int) - 1)
def woB (L : List (List Sm)) (th at_ : Int) : Bool := hasB L th && inB at_ 0 (((L.getD th.toNat []).length : Int) - 1)
def woE (L : List (List Sm)) (th at_ : Int) : List (List Sm) := if woB L th at_ then L.set th.toNat ((L.getD th.toNat []).eraseIdx at_.toNat) else []

theorem inB_iff {n lo hi : Int} : inB n lo hi = true ↔ lo ≤ n ∧ n ≤ hi := by simp [inB]
theorem prog_small {L : List (List Sm)} (h : progB L = true) : 1 ≤ L.length ∧ L.length ≤ 3 ∧ ∀ xs ∈ L, xs.length ≤ 6 := by
  simp only [progB, Bool.and_eq_true, decide_eq_true_eq, List.all_eq_true] at h
  exact ⟨h.1.1, h.1.2, fun xs hx => thr_len (h.2.1 xs hx)⟩

theorem ihas_any (A : Option Addr) (L : List (List Sm)) (c : Nat) (th : Int) (w : World) (B : Nat) (h : Rows2 w B A L) (hB : B ≤ w.heap.size) (hm : L.length ≤ 1048576) (r : Bool) (hr : Hid (hasB L th = r)) :
    Calls Try.prog 69 #[.agg #[.slice A L.length c], .int .i64 th] w fun e w' => e = .returned (.bool r) ∧ Below w.heap.size w w' := by
  obtain ⟨W, hW⟩ : ∃ W, W = w.alloc (.cells #[.slice A L.length c] 25) := ⟨_, rfl⟩
  have bW : Below w.heap.size w W := by rw [hW]; go_grown
  have kW : Bk W w.heap.size 25 #[.slice A L.length c] := by rw [hW]; exact Bk.new _ _ _
  have BW := Lib.hid bW
  have KW := Lib.hid kW
  have HR := Lib.hid (h.below bW hB)
  have HBW : Hid (B ≤ W.heap.size) := Lib.hid (Nat.le_trans hB bW.size)
  have HW := Lib.hid hW
  clear hW bW kW h
  rcases Bool.eq_false_or_eq_true (progB L) with hp | hp
  all_goals
    have Hp := Lib.hid hp
    have hfin : Hid (r = (progB L && inB th 0 ((L.length : Int) - 1))) := Lib.hid (by rw [← hr.out]; rfl)
    clear hp hr
    go_enter Try.func69, Try.ntmps69
    go_wp2_with fail
    rw [← HW.out]
    refine (iprog_any A L c W B HR.out HBW.out (by unfold maxLen; omega) _ Hp).mono ?_
    rintro e w1 ⟨rfl, hb1⟩
    have hbox := (KW.out.below hb1 KW.out.lt).cell 0
    have hB1 := Lib.hid (below_on BW.out hb1)
    simp at hbox
    clear hb1
    go_wp2_with (go_at_call 70; refine (within_any _ _ _ _).mono ?_; rintro e w' ⟨rfl, rfl⟩)
    go_ret
    refine ⟨?_, hB1.out⟩
    rw [hfin.out, Hp.out]
    rfl

theorem iwithout_no (A : Option Addr) (L : List (List Sm)) (c : Nat) (th at_ : Int) (w : World) (B : Nat) (h : Rows2 w B A L) (hB : B ≤ w.heap.size) (hm : L.length ≤ 1048576) (hr : Hid (hasB L th = false)) :
    Calls Try.prog 18 #[.agg #[.slice A L.length c], .int .i64 th, .int .i64 at_] w (Answer w [] false) := by
  obtain ⟨W, hW⟩ : ∃ W, W = (w.alloc (.cells #[.slice A L.length c] 25)).alloc (.cells #[.slice none 0 0] 25) := ⟨_, rfl⟩
  have bW : Below w.heap.size w W := by rw [hW]; go_grown
  have kW : Bk W (w.heap.size + 1) 25 #[.slice none 0 0] := by
    rw [hW]; have := Bk.new (w.alloc (.cells #[.slice A L.length c] 25)) #[.slice none 0 0] 25
    rwa [World.size_alloc] at this
  have BW := Lib.hid bW
  have KW := Lib.hid kW
  have HR := Lib.hid (h.below bW hB)
  have HBW : Hid (B ≤ W.heap.size) := Lib.hid (Nat.le_trans hB bW.size)
  have HW := Lib.hid hW
  clear hW bW kW h
  go_enter Try.func18, Try.ntmps18
  go_wp2_with fail
  rw [← HW.out]
  refine (ihas_any A L c th W B HR.out HBW.out hm _ hr).mono ?_
  rintro e w1 ⟨rfl, hb1⟩
  have k1 := KW.out.below hb1 KW.out.lt
  have c1 := k1.cell 0
  have f1 := k1.free 0
  have hres := (k1.set 0 (.slice none 0 0)).cell 0
  have hB1 := Lib.hid (below_on BW.out hb1)
  simp at c1
  clear hb1 k1
  go_wp2
  refine bodyPost_ret (v := .tuple #[.agg #[.slice none 0 0], .bool false]) (by simp [results, Try.results18, hres, go_sem]) rfl ?_
  exact ⟨none, 0, rfl, hB1.out.setCell (by show _ ≤ w.heap.size + 1; omega) _, fun hn => absurd hn (by simp)⟩

theorem splice_erase (xs : List Sm) (a : Nat) : splice xs a (a + 1) [] = xs.eraseIdx a := by
  rw [splice, List.nil_append, List.eraseIdx_eq_take_drop_succ]

theorem iwithout_yes (A : Option Addr) (L : List (List Sm)) (xs : List Sm) (c k : Nat) (at_ : Int) (w : World) (B : Nat) (h : Rows2 w B A L) (hB : B ≤ w.heap.size) (hm : L.length ≤ 1048576) (hm2 : Hid (∀ xs ∈ L, xs.length ≤ 1048576)) (hr : Hid (hasB L (k : Int) = true)) (hx : Hid (L[k]? = some xs)) (hv : Hid (inB at_ 0 ((xs.length : Int) - 1) = true)) :
    Calls Try.prog 18 #[.agg #[.slice A L.length c], .int .i64 (k : Int), .int .i64 at_] w (Answer w (L.set k (xs.eraseIdx at_.toNat)) true) := by
  have hk : k < L.length := (List.getElem?_eq_some_iff.1 hx.out).1
  obtain ⟨W, hW⟩ : ∃ W, W = (w.alloc (.cells #[.slice A L.length c] 25)).alloc (.cells #[.slice none 0 0] 25) := ⟨_, rfl⟩
  have bW : Below w.heap.size w W := by rw [hW]; go_grown
  have sW : W.heap.size = w.heap.size + 1 + 1 := by rw [hW]; simp
  have kW : Bk W (w.heap.size + 1) 25 #[.slice none 0 0] := by
    rw [hW]; have := Bk.new (w.alloc (.cells #[.slice A L.length c] 25)) #[.slice none 0 0] 25
    rwa [World.size_alloc] at this
  have k0 : Bk W w.heap.size 25 #[.slice A L.length c] := by
    rw [hW]; exact (Bk.new w #[.slice A L.length c] 25).alloc _
  have BW := Lib.hid bW
  have SW := Lib.hid sW
  have KW := Lib.hid kW
  have K0 := Lib.hid k0
  have HR := Lib.hid (h.below bW hB)
  have HBW : Hid (B ≤ W.heap.size) := Lib.hid (Nat.le_trans hB bW.size)
  have HW := Lib.hid hW
  have hat := inB_iff.1 hv.out
  have HE : Hid (L.set (k : Int).toNat (splice xs at_.toNat (at_ + 1).toNat []) = L.set k (xs.eraseIdx at_.toNat)) := Lib.hid (by
    rw [Int.toNat_natCast, show (at_ + 1).toNat = at_.toNat + 1 by omega, splice_erase])
  have Hlen : xs.length ≤ 1048576 := hm2.out xs (List.mem_of_getElem? hx.out)
  clear hW bW sW kW k0 h
  go_enter Try.func18, Try.ntmps18
  go_wp2_with fail
  rw [← HW.out]
  refine (ihas_any A L c k W B HR.out HBW.out hm _ hr).mono ?_
  rintro e w1 ⟨rfl, hb1⟩
  have hbox := (K0.out.below hb1 K0.out.lt).cell 0
  simp at hbox
  have HR1 := Lib.hid (HR.out.below hb1 HBW.out)
  have HB1 : Hid (B ≤ w1.heap.size) := Lib.hid (Nat.le_trans HBW.out hb1.size)
  have K1 := Lib.hid (KW.out.below hb1 KW.out.lt)
  have B1 := Lib.hid (below_on BW.out hb1)
  have S1 : Hid (w.heap.size + 1 < w1.heap.size) := Lib.hid K1.out.lt
  clear hb1
  obtain ⟨b, off, xs', Ai, ci, rfl, -, hx', hx0, hlx, hmx, hA0, hrow⟩ := HR1.out.cap_ hk
  obtain rfl : xs' = xs := by
    have := hx.out
    rw [hx'] at this
    injection this
  clear hx' hmx hA0 hrow
  have hi1 : (k : Int) < (L.length : Int) := by omega
  go_wp2_with (go_at_call 70; refine (ret_bool hv.out (within_any at_ 0 ((xs'.length : Int) - 1) _)).mono ?_; rintro e w' ⟨rfl, rfl⟩)
  have hcall := edited_any (some ⟨b, off, none⟩) none L xs' [] c 0 (k : Int) at_ (at_ + 1) w1 B HR1.out (fun hn => absurd hn (by simp)) HB1.out hm hm2 (by simp) (by simp) (Lib.hid (fun _ => rfl)) (by omega) (Lib.hid (by rw [Int.toNat_natCast]; exact hx.out)) (by omega) (by omega) (by omega)
  rw [HE.out] at hcall
  obtain ⟨E, hE⟩ : ∃ E, E = L.set k (xs'.eraseIdx at_.toNat) := ⟨_, rfl⟩
  rw [← hE] at hcall
  have HEq := Lib.hid hE
  clear HE hE
  refine hcall.mono ?_
  rintro e w2 ⟨A2, c2, rfl, hb2, own2⟩
  have k1 := K1.out.below hb2 S1.out
  have c1 := k1.cell 0
  have f1 := k1.free 0
  have hres := (k1.set 0 (.slice A2 E.length c2)).cell 0
  have B2 := Lib.hid (below_on B1.out hb2)
  have O2 := Lib.hid own2
  have S2 : Hid (w.heap.size ≤ w1.heap.size) := Lib.hid (by have := S1.out; omega)
  simp at c1
  clear hb2 own2 k1 hbox hx0
  go_wp2
  refine bodyPost_ret (v := .tuple #[.agg #[.slice A2 E.length c2], .bool true]) (by simp [results, Try.results18, hres, go_sem]) rfl ?_
  rw [← HEq.out]
  refine ⟨A2, c2, rfl, B2.out.setCell (by show _ ≤ w.heap.size + 1; omega) _, ?_⟩
  refine O2.out.keep S2.out (by simp only [World.size_setCell]; exact Nat.le_refl _) fun i hi _ => ?_
  have := S1.out
  exact Below.heap_setCell _ _ _ i (by show i ≠ w.heap.size + 1; omega)

theorem iwithout_mid (A : Option Addr) (L : List (List Sm)) (xs : List Sm) (c k : Nat) (at_ : Int) (w : World) (B : Nat) (h : Rows2 w B A L) (hB : B ≤ w.heap.size) (hm : L.length ≤ 1048576) (hm2 : Hid (∀ xs ∈ L, xs.length ≤ 1048576)) (hr : Hid (hasB L (k : Int) = true)) (hx : Hid (L[k]? = some xs)) (hv : Hid (inB at_ 0 ((xs.length : Int) - 1) = false)) :
    Calls Try.prog 18 #[.agg #[.slice A L.length c], .int .i64 (k : Int), .int .i64 at_] w (Answer w [] false) := by
  have hk : k < L.length := (List.getElem?_eq_some_iff.1 hx.out).1
  obtain ⟨W, hW⟩ : ∃ W, W = (w.alloc (.cells #[.slice A L.length c] 25)).alloc (.cells #[.slice none 0 0] 25) := ⟨_, rfl⟩
  have bW : Below w.heap.size w W := by rw [hW]; go_grown
  have sW : W.heap.size = w.heap.size + 1 + 1 := by rw [hW]; simp
  have kW : Bk W (w.heap.size + 1) 25 #[.slice none 0 0] := by
    rw [hW]; have := Bk.new (w.alloc (.cells #[.slice A L.length c] 25)) #[.slice none 0 0] 25
    rwa [World.size_alloc] at this
  have k0 : Bk W w.heap.size 25 #[.slice A L.length c] := by
    rw [hW]; exact (Bk.new w #[.slice A L.length c] 25).alloc _
  have BW := Lib.hid bW
  have SW := Lib.hid sW
  have KW := Lib.hid kW
  have K0 := Lib.hid k0
  have HR := Lib.hid (h.below bW hB)
  have HBW : Hid (B ≤ W.heap.size) := Lib.hid (Nat.le_trans hB bW.size)
  have HW := Lib.hid hW
  have Hlen : xs.length ≤ 1048576 := hm2.out xs (List.mem_of_getElem? hx.out)
  clear hW bW sW kW k0 h
  go_enter Try.func18, Try.ntmps18
  go_wp2_with fail
  rw [← HW.out]
  refine (ihas_any A L c k W B HR.out HBW.out hm _ hr).mono ?_
  rintro e w1 ⟨rfl, hb1⟩
  have hbox := (K0.out.below hb1 K0.out.lt).cell 0
  simp at hbox
  have HR1 := Lib.hid (HR.out.below hb1 HBW.out)
  have HB1 : Hid (B ≤ w1.heap.size) := Lib.hid (Nat.le_trans HBW.out hb1.size)
  have K1 := Lib.hid (KW.out.below hb1 KW.out.lt)
  have B1 := Lib.hid (below_on BW.out hb1)
  have S1 : Hid (w.heap.size + 1 < w1.heap.size) := Lib.hid K1.out.lt
  clear hb1
  obtain ⟨b, off, xs', Ai, ci, rfl, -, hx', hx0, hlx, hmx, hA0, hrow⟩ := HR1.out.cap_ hk
  obtain rfl : xs' = xs := by
    have := hx.out
    rw [hx'] at this
    injection this
  clear hx' hmx hA0 hrow
  have hi1 : (k : Int) < (L.length : Int) := by omega
  have c1 := K1.out.cell 0
  have f1 := K1.out.free 0
  have hres := (K1.out.set 0 (.slice none 0 0)).cell 0
  simp at c1
  go_wp2_with (go_at_call 70; refine (ret_bool hv.out (within_any at_ 0 ((xs'.length : Int) - 1) _)).mono ?_; rintro e w' ⟨rfl, rfl⟩)
  refine bodyPost_ret (v := .tuple #[.agg #[.slice none 0 0], .bool false]) (by simp [results, Try.results18, hres, go_sem]) rfl ?_
  exact ⟨none, 0, rfl, B1.out.setCell (by show _ ≤ w.heap.size + 1; omega) _, fun hn => absurd hn (by simp)⟩

theorem iwithout_any (A : Option Addr) (L : List (List Sm)) (c : Nat) (th at_ : Int) (w : World) (B : Nat) (h : Rows2 w B A L) (hB : B ≤ w.heap.size) (hm : L.length ≤ 1048576) (hm2 : Hid (∀ xs ∈ L, xs.length ≤ 1048576)) :
    Calls Try.prog 18 #[.agg #[.slice A L.length c], .int .i64 th, .int .i64 at_] w (Answer w (woE L th at_) (woB L th at_)) := by
  rcases Bool.eq_false_or_eq_true (hasB L th) with h1 | h1
  · have h1' := h1
    simp only [hasB, Bool.and_eq_true, inB_iff] at h1'
    obtain ⟨k, rfl⟩ := Int.eq_ofNat_of_zero_le h1'.2.1
    have hk : k < L.length := by have := prog_small h1'.1; omega
    have hx : L[k]? = some L[k] := List.getElem?_eq_getElem hk
    have hg : L.getD (k : Int).toNat [] = L[k] := by rw [Int.toNat_natCast, List.getD, hx]; rfl
    rcases Bool.eq_false_or_eq_true (inB at_ 0 ((L[k].length : Int) - 1)) with h2 | h2
    · have e : woB L (k : Int) at_ = true := by rw [woB, h1, hg, h2]; rfl
      rw [woE, if_pos e, e, hg, Int.toNat_natCast]
      exact iwithout_yes A L L[k] c k at_ w B h hB hm hm2 (Lib.hid h1) (Lib.hid hx) (Lib.hid h2)
    · have e : woB L (k : Int) at_ = false := by rw [woB, h1, hg, h2]; rfl
      rw [woE, e, if_neg (by simp)]
      exact iwithout_mid A L L[k] c k at_ w B h hB hm hm2 (Lib.hid h1) (Lib.hid hx) (Lib.hid h2)
  · have e : woB L th at_ = false := by rw [woB, h1]; rfl
    rw [woE, e, if_neg (by simp)]
    exact iwithout_no A L c th at_ w B h hB hm (Lib.hid h1)

end Go.Proofs.Yteinbbhhjalbeaa
