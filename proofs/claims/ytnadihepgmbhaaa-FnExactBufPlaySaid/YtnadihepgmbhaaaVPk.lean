/-
  States with buffers as words: what the program's packedBuffered and packedSpread come to.
-/
import Derived.Test.YtnadihepgmbhaaaSpr
import Derived.Test.YtnadihepgmbhaaaBfP
import Derived.Test.YtnadihepgmbhaaaStOk
import Derived.Test.YtnadihepgmbhaaaVQ
import Derived.Test.YtnadihepgmbhaaaICan
import Derived.Test.YtnadihepgmbhaaaBegin
namespace Go.Proofs.Ytnadihepgmbhaaa
open Go.RowKit Pl Go.BigFrame
set_option maxHeartbeats 4000000
set_option maxRecDepth 100000
set_option linter.unusedVariables false

def bufB (L : Pg) (o : Buf) : Bool := (stB L o.st && decide (o.bs.length = L.length)) && o.bs.all lokB
theorem prsB_two {xs : List Int} {k : Nat} {a b : Int} (h1 : xs[k]? = some a) (h2 : xs[k + 1]? = some b) : prsB (xs.drop k) = (inB a 0 2 && (inB b 0 3 && prsB (xs.drop (k + 2)))) := by
  have e : xs.drop k = a :: b :: xs.drop (k + 2) := by
    obtain ⟨l1, g1⟩ := List.getElem?_eq_some_iff.1 h1
    obtain ⟨l2, g2⟩ := List.getElem?_eq_some_iff.1 h2
    rw [List.drop_eq_getElem_cons l1, List.drop_eq_getElem_cons l2, g1, g2]
  rw [e, prsB]

theorem blok_any (A : Option Addr) (xs : List Int) (c : Nat) (w : World) (B : Nat) (h : Vs w B A (ints xs)) (hm : xs.length ≤ maxLen) (r : Bool) (hr : Hid (lokB xs = r)) :
    Calls Try.prog 133 #[.slice A xs.length c] w fun e w' => e = .returned (.bool r) ∧ w = w' := by
  unfold maxLen at hm
  by_cases h2 : xs.length % 2 = 0
  rotate_left
  · have e2 : Int.tmod (xs.length : Int) 2 = 1 := by rw [Int.tmod_eq_emod_of_nonneg (by omega)]; omega
    have hfin : Hid (r = false) := Lib.hid (by rw [← hr.out, lokB]; simp [h2])
    clear hr h2
    go_enter Try.func133, Try.ntmps133
    go_wp2
    go_ret
    exact ⟨by rw [hfin.out]; rfl, rfl⟩
  have e2 : Int.tmod (xs.length : Int) 2 = 0 := by rw [Int.tmod_eq_emod_of_nonneg (by omega)]; omega
  have H2 := Lib.hid h2
  by_cases h12 : xs.length ≤ 12
  rotate_left
  · have e12 : (12 : Int) < (xs.length : Int) := by omega
    have hfin : Hid (r = false) := Lib.hid (by rw [← hr.out, lokB]; simp [h12])
    clear hr h2 h12
    go_enter Try.func133, Try.ntmps133
    go_wp2
    go_ret
    exact ⟨by rw [hfin.out]; rfl, rfl⟩
  have e12 : ¬ (12 : Int) < (xs.length : Int) := by omega
  have hfin : Hid (prsB (xs.drop (2 * 0)) = r) := Lib.hid (by rw [← hr.out, lokB]; simp [h2, h12])
  clear hr h2
  go_enter Try.func133, Try.ntmps133
  go_wp2
  go_loop [3] (fun i => ∃ k : Nat, 2 * k ≤ xs.length ∧ i = .int .i64 (2 * k + 1 : Nat) ∧ Hid (prsB (xs.drop (2 * k)) = r)) (fun i => xs.length + 1 - (intOf i).toNat)
  case atStart => exact ⟨0, Nat.zero_le _, rfl, hfin⟩
  case round =>
    obtain ⟨k, hk, rfl, hrest⟩ := hrel
    clear hfin e2 e12
    by_cases hlt : 2 * k + 1 < xs.length
    · obtain ⟨b, off, x, hA, hb, hx, -, hx0⟩ := h.int_ (k := 2 * k) (by omega)
      obtain ⟨b', off', y, hA', hb', hy, -, hy0⟩ := h.int_ hlt
      subst hA
      injection hA' with hA'
      injection hA' with e1 e3
      subst e1
      subst e3
      have Hp := Lib.hid (prsB_two hx hy)
      have hi0 : ((2 * k + 1 : Nat) : Int) - 1 = ((2 * k : Nat) : Int) := by omega
      clear hx hy
      rcases Bool.eq_false_or_eq_true (inB x 0 2) with he | he
      rotate_left
      · have He := Lib.hid he
        clear he
        have hlast : Hid (r = false) := Lib.hid (by rw [← hrest.out, Hp.out, He.out]; rfl)
        go_wp2_with (go_at_call 76; refine (within_b _ _ _ _ _ He).mono ?_; rintro e w' ⟨rfl, rfl⟩)
        go_ret
        exact ⟨by rw [hlast.out]; rfl, rfl⟩
      have He := Lib.hid he
      clear he
      rcases Bool.eq_false_or_eq_true (inB y 0 3) with he | he
      rotate_left
      · have He2 := Lib.hid he
        clear he
        have hlast : Hid (r = false) := Lib.hid (by rw [← hrest.out, Hp.out, He.out, He2.out]; rfl)
        go_wp2_with fail
        refine (within_b x 0 2 _ _ He).mono ?_
        rintro e w' ⟨rfl, rfl⟩
        go_wp2_with fail
        refine (within_b y 0 3 _ _ He2).mono ?_
        rintro e w' ⟨rfl, rfl⟩
        go_wp2
        go_ret
        exact ⟨by rw [hlast.out]; rfl, rfl⟩
      have He2 := Lib.hid he
      clear he
      go_wp2_with fail
      refine (within_b x 0 2 _ _ He).mono ?_
      rintro e w' ⟨rfl, rfl⟩
      go_wp2_with fail
      refine (within_b y 0 3 _ _ He2).mono ?_
      rintro e w' ⟨rfl, rfl⟩
      go_wp2
      go_round
      case rel => exact ⟨k + 1, by omega, by go_num, Lib.hid (by
        have := hrest.out
        rw [Hp.out, He.out, He2.out] at this
        simpa [Nat.mul_add] using this)⟩
      case measure => simp [intOf]; omega
    · have hlast : Hid (r = true) := Lib.hid (by
        have h3 := H2.out
        have := hrest.out
        rw [List.drop_eq_nil_of_le (by omega)] at this
        rw [← this]; rfl)
      have hge : ¬ ((2 * k + 1 : Nat) : Int) < (xs.length : Int) := by omega
      go_wp2
      go_ret
      exact ⟨by rw [hlast.out]; rfl, rfl⟩

theorem ibufok_any (h : PgH) (L : Pg) (k : BufH) (o : Buf) (w : World) (B : Nat) (hP : PgR w B h L) (hS : BufR w B k o) (hB : B ≤ w.heap.size) (SP : PgS L) (LS : BufS o) (r : Bool) (hr : Hid (bufB L o = r)) :
    Calls Try.prog 88 #[PgV h L, BufV k o] w fun e w' => e = .returned (.bool r) ∧ Below w.heap.size w w' := by
  have LP := PgS_L SP
  have LL := BufS_L LS
  have LS' := StaS_L LS.s
  obtain ⟨W, hW⟩ : ∃ W, W = (w.alloc (.cells #[.slice h.A L.length h.c] 36)).alloc (.cells #[.slice k.h.A0 o.st.f0.length k.h.c0, .slice k.h.A1 o.st.f1.length k.h.c1, .slice k.h.A2 o.st.f2.length k.h.c2, .slice k.h.A3 o.st.f3.length k.h.c3, .slice k.h.A4 o.st.f4.length k.h.c4, .slice k.k.A o.bs.length k.k.c] 59) := ⟨_, rfl⟩
  have bW : Below w.heap.size w W := by rw [hW]; go_grown
  have k0 : Bk W w.heap.size 36 #[.slice h.A L.length h.c] := by rw [hW]; exact (Bk.new w _ _).alloc _
  have k1 : Bk W (w.heap.size + 1) 59 #[.slice k.h.A0 o.st.f0.length k.h.c0, .slice k.h.A1 o.st.f1.length k.h.c1, .slice k.h.A2 o.st.f2.length k.h.c2, .slice k.h.A3 o.st.f3.length k.h.c3, .slice k.h.A4 o.st.f4.length k.h.c4, .slice k.k.A o.bs.length k.k.c] := by
    rw [hW]; have := Bk.new (w.alloc (.cells #[.slice h.A L.length h.c] 36)) #[.slice k.h.A0 o.st.f0.length k.h.c0, .slice k.h.A1 o.st.f1.length k.h.c1, .slice k.h.A2 o.st.f2.length k.h.c2, .slice k.h.A3 o.st.f3.length k.h.c3, .slice k.h.A4 o.st.f4.length k.h.c4, .slice k.k.A o.bs.length k.k.c] 59
    rwa [World.size_alloc] at this
  have P0 := Lib.hid (hP.below bW hB)
  have Q0 := Lib.hid (hS.below bW hB)
  have K0 := Lib.hid k0
  have K1 := Lib.hid k1
  have B0 := Lib.hid bW
  have z0 := bW.size
  have HW := Lib.hid hW
  clear hW bW k0 k1 hP hS
  rcases Bool.eq_false_or_eq_true (stB L o.st) with hst | hst
  rotate_left
  · have hfin : Hid (r = false) := Lib.hid (by rw [← hr.out, bufB, hst]; rfl)
    have HST := Lib.hid hst
    clear hr hst
    go_enter Try.func88, Try.ntmps88
    go_wp2_with fail
    rw [← HW.out]
    refine (istok_any h L k.h o.st W B P0.out Q0.out.s (by omega) LP LS' false HST).mono ?_
    rintro e w1 ⟨rfl, hb⟩
    have B1 := Lib.hid (below_on B0.out hb)
    clear hb
    go_wp2
    go_ret
    exact ⟨by rw [hfin.out]; rfl, B1.out⟩
  have HST := Lib.hid hst
  by_cases hl : o.bs.length = L.length
  rotate_left
  · have hfin : Hid (r = false) := Lib.hid (by rw [← hr.out, bufB]; simp [hl])
    have hne : ((o.bs.length : Int) != (L.length : Int)) = true := by simp; omega
    clear hr hst hl
    go_enter Try.func88, Try.ntmps88
    go_wp2_with fail
    rw [← HW.out]
    refine (istok_any h L k.h o.st W B P0.out Q0.out.s (by omega) LP LS' true HST).mono ?_
    rintro e w1 ⟨rfl, hb⟩
    have B1 := Lib.hid (below_on B0.out hb)
    have cP : w1.cell? ⟨w.heap.size, 0, none⟩ = some (.slice h.A L.length h.c) := (K0.out.below hb K0.out.lt).cell 0
    have c5 : w1.cell? ⟨w.heap.size + 1, 5, none⟩ = some (.slice k.k.A o.bs.length k.k.c) := (K1.out.below hb K1.out.lt).cell 5
    clear hb
    go_wp2
    go_ret
    exact ⟨by rw [hfin.out]; rfl, B1.out⟩
  have hfin : Hid (o.bs.all lokB = r) := Lib.hid (by rw [← hr.out, bufB, hst]; simp [hl])
  have hne : ((o.bs.length : Int) != (L.length : Int)) = false := by simp [hl]
  clear hr hst hl
  go_enter Try.func88, Try.ntmps88
  go_wp2_with fail
  rw [← HW.out]
  refine (istok_any h L k.h o.st W B P0.out Q0.out.s (by omega) LP LS' true HST).mono ?_
  rintro e w1 ⟨rfl, hb⟩
  have B1 := Lib.hid (below_on B0.out hb)
  have Q1 := Lib.hid (Q0.out.below hb (by omega))
  have cP : w1.cell? ⟨w.heap.size, 0, none⟩ = some (.slice h.A L.length h.c) := (K0.out.below hb K0.out.lt).cell 0
  have k1 := K1.out.below hb K1.out.lt
  have K11 := Lib.hid k1
  have c5 : w1.cell? ⟨w.heap.size + 1, 5, none⟩ = some (.slice k.k.A o.bs.length k.k.c) := k1.cell 5
  have z1 := hb.size
  have l1 := k1.lt
  clear hb k1
  obtain ⟨A, c, hA, hc⟩ : ∃ A c, k.k.A = A ∧ k.k.c = c := ⟨_, _, rfl, rfl⟩
  have V1 : Hid (Vss w1 B A (vsIss o.bs)) := Lib.hid (hA ▸ Q1.out.b.v)
  have bl := LL.b.l0
  have HR := Lib.hid LL.b.l1
  unfold maxLen at bl
  rw [hA, hc] at c5
  go_wp2
  go_loop [24] (fun i => ∃ m : Nat, m ≤ o.bs.length ∧ i = .int .i64 m ∧ Hid ((o.bs.drop m).all lokB = r)) (fun i => o.bs.length - (intOf i).toNat)
  case atStart => exact ⟨0, Nat.zero_le _, rfl, by simpa using hfin⟩
  case round =>
    obtain ⟨m, hm, rfl, hrest⟩ := hrel
    clear hfin hne cP c5
    by_cases hlt : m < o.bs.length
    · obtain ⟨xs, hxs, hd⟩ := drop_at hlt
      obtain ⟨b, off, Ai, ci, rfl, hb, hx0, hrow⟩ := V1.out.at_ (vsIss_at hxs)
      rw [ints_length] at hx0
      have hl := HR.out xs (List.mem_of_getElem? hxs)
      have Hd := Lib.hid hd
      have Hw := Lib.hid hrow
      have hbw : b < w1.heap.size := by omega
      clear hd hxs hrow
      unfold maxLen at hl
      rcases Bool.eq_false_or_eq_true (lokB xs) with he | he
      all_goals
        have He := Lib.hid he
        clear he
        go_wp2_with fail
        refine (blok_any Ai xs ci _ B Hw.out (by unfold maxLen; omega) _ He).mono ?_
        rintro e w' ⟨rfl, rfl⟩
        go_wp2
      · go_round
        case rel => exact ⟨m + 1, by omega, by go_num, Lib.hid (by
          have := hrest.out
          rw [Hd.out, List.all_cons, He.out] at this
          simpa using this)⟩
        case measure => simp [intOf]; omega
      · go_ret
        refine ⟨?_, B1.out⟩
        have := hrest.out
        rw [Hd.out, List.all_cons, He.out] at this
        rw [← this]; rfl
    · have hlast : Hid (r = true) := Lib.hid (by
        have := hrest.out
        rw [List.drop_eq_nil_of_le (by omega)] at this
        rw [← this]; rfl)
      go_wp2
      go_ret
      exact ⟨by rw [hlast.out]; rfl, B1.out⟩
theorem sbufok_any (h : PgH) (L : Pg) (k : BufH) (o : Buf) (w : World) (B : Nat) (hP : PgR w B h L) (hS : BufR w B k o) (hB : B ≤ w.heap.size) (SP : PgS L) (LS : BufS o) (r : Bool) (hr : Hid (bufB L o = r)) :
    Calls Try.prog 86 #[PgV h L, BufV k o] w fun e w' => e = .returned (.bool r) ∧ Below w.heap.size w w' := by
  have LP := PgS_L SP
  have LL := BufS_L LS
  have LS' := StaS_L LS.s
  obtain ⟨W, hW⟩ : ∃ W, W = (w.alloc (.cells #[.slice h.A L.length h.c] 36)).alloc (.cells #[.slice k.h.A0 o.st.f0.length k.h.c0, .slice k.h.A1 o.st.f1.length k.h.c1, .slice k.h.A2 o.st.f2.length k.h.c2, .slice k.h.A3 o.st.f3.length k.h.c3, .slice k.h.A4 o.st.f4.length k.h.c4, .slice k.k.A o.bs.length k.k.c] 59) := ⟨_, rfl⟩
  have bW : Below w.heap.size w W := by rw [hW]; go_grown
  have k0 : Bk W w.heap.size 36 #[.slice h.A L.length h.c] := by rw [hW]; exact (Bk.new w _ _).alloc _
  have k1 : Bk W (w.heap.size + 1) 59 #[.slice k.h.A0 o.st.f0.length k.h.c0, .slice k.h.A1 o.st.f1.length k.h.c1, .slice k.h.A2 o.st.f2.length k.h.c2, .slice k.h.A3 o.st.f3.length k.h.c3, .slice k.h.A4 o.st.f4.length k.h.c4, .slice k.k.A o.bs.length k.k.c] := by
    rw [hW]; have := Bk.new (w.alloc (.cells #[.slice h.A L.length h.c] 36)) #[.slice k.h.A0 o.st.f0.length k.h.c0, .slice k.h.A1 o.st.f1.length k.h.c1, .slice k.h.A2 o.st.f2.length k.h.c2, .slice k.h.A3 o.st.f3.length k.h.c3, .slice k.h.A4 o.st.f4.length k.h.c4, .slice k.k.A o.bs.length k.k.c] 59
    rwa [World.size_alloc] at this
  have P0 := Lib.hid (hP.below bW hB)
  have Q0 := Lib.hid (hS.below bW hB)
  have K0 := Lib.hid k0
  have K1 := Lib.hid k1
  have B0 := Lib.hid bW
  have z0 := bW.size
  have HW := Lib.hid hW
  clear hW bW k0 k1 hP hS
  rcases Bool.eq_false_or_eq_true (stB L o.st) with hst | hst
  rotate_left
  · have hfin : Hid (r = false) := Lib.hid (by rw [← hr.out, bufB, hst]; rfl)
    have HST := Lib.hid hst
    clear hr hst
    go_enter Try.func86, Try.ntmps86
    go_wp2_with fail
    rw [← HW.out]
    refine (sstok_any h L k.h o.st W B P0.out Q0.out.s (by omega) SP LS.s false HST).mono ?_
    rintro e w1 ⟨rfl, hb⟩
    have B1 := Lib.hid (below_on B0.out hb)
    clear hb
    go_wp2
    go_ret
    exact ⟨by rw [hfin.out]; rfl, B1.out⟩
  have HST := Lib.hid hst
  by_cases hl : o.bs.length = L.length
  rotate_left
  · have hfin : Hid (r = false) := Lib.hid (by rw [← hr.out, bufB]; simp [hl])
    have hne : ((o.bs.length : Int) != (L.length : Int)) = true := by simp; omega
    clear hr hst hl
    go_enter Try.func86, Try.ntmps86
    go_wp2_with fail
    rw [← HW.out]
    refine (sstok_any h L k.h o.st W B P0.out Q0.out.s (by omega) SP LS.s true HST).mono ?_
    rintro e w1 ⟨rfl, hb⟩
    have B1 := Lib.hid (below_on B0.out hb)
    have cP : w1.cell? ⟨w.heap.size, 0, none⟩ = some (.slice h.A L.length h.c) := (K0.out.below hb K0.out.lt).cell 0
    have c5 : w1.cell? ⟨w.heap.size + 1, 5, none⟩ = some (.slice k.k.A o.bs.length k.k.c) := (K1.out.below hb K1.out.lt).cell 5
    clear hb
    go_wp2
    go_ret
    exact ⟨by rw [hfin.out]; rfl, B1.out⟩
  have hfin : Hid (o.bs.all lokB = r) := Lib.hid (by rw [← hr.out, bufB, hst]; simp [hl])
  have hne : ((o.bs.length : Int) != (L.length : Int)) = false := by simp [hl]
  clear hr hst hl
  go_enter Try.func86, Try.ntmps86
  go_wp2_with fail
  rw [← HW.out]
  refine (sstok_any h L k.h o.st W B P0.out Q0.out.s (by omega) SP LS.s true HST).mono ?_
  rintro e w1 ⟨rfl, hb⟩
  have B1 := Lib.hid (below_on B0.out hb)
  have Q1 := Lib.hid (Q0.out.below hb (by omega))
  have cP : w1.cell? ⟨w.heap.size, 0, none⟩ = some (.slice h.A L.length h.c) := (K0.out.below hb K0.out.lt).cell 0
  have k1 := K1.out.below hb K1.out.lt
  have K11 := Lib.hid k1
  have c5 : w1.cell? ⟨w.heap.size + 1, 5, none⟩ = some (.slice k.k.A o.bs.length k.k.c) := k1.cell 5
  have z1 := hb.size
  have l1 := k1.lt
  clear hb k1
  obtain ⟨A, c, hA, hc⟩ : ∃ A c, k.k.A = A ∧ k.k.c = c := ⟨_, _, rfl, rfl⟩
  have V1 : Hid (Vss w1 B A (vsIss o.bs)) := Lib.hid (hA ▸ Q1.out.b.v)
  have bl := LL.b.l0
  have HR := Lib.hid LL.b.l1
  unfold maxLen at bl
  rw [hA, hc] at c5
  go_wp2
  go_loop [5] (fun i => ∃ m : Nat, m ≤ o.bs.length ∧ i = .int .i64 m ∧ Hid ((o.bs.drop m).all lokB = r)) (fun i => o.bs.length - (intOf i).toNat)
  case atStart => exact ⟨0, Nat.zero_le _, rfl, by simpa using hfin⟩
  case round =>
    obtain ⟨m, hm, rfl, hrest⟩ := hrel
    clear hfin hne cP
    by_cases hlt : m < o.bs.length
    · obtain ⟨xs, hxs, hd⟩ := drop_at hlt
      obtain ⟨b, off, Ai, ci, rfl, hb, hx0, hrow⟩ := V1.out.at_ (vsIss_at hxs)
      rw [ints_length] at hx0
      have hl := HR.out xs (List.mem_of_getElem? hxs)
      have Hd := Lib.hid hd
      have Hw := Lib.hid hrow
      have hbw : b < w1.heap.size := by omega
      clear hd hxs hrow
      unfold maxLen at hl
      by_cases h2 : xs.length % 2 = 0
      rotate_left
      · have e2 : Int.tmod (xs.length : Int) 2 = 1 := by rw [Int.tmod_eq_emod_of_nonneg (by omega)]; omega
        have hlast : Hid (r = false) := Lib.hid (by rw [← hrest.out, Hd.out, List.all_cons, lokB]; simp [h2])
        clear h2
        go_wp2
        go_ret
        exact ⟨by rw [hlast.out]; rfl, B1.out⟩
      have e2 : Int.tmod (xs.length : Int) 2 = 0 := by rw [Int.tmod_eq_emod_of_nonneg (by omega)]; omega
      by_cases h12 : xs.length ≤ 12
      rotate_left
      · have e12 : (12 : Int) < (xs.length : Int) := by omega
        have hlast : Hid (r = false) := Lib.hid (by rw [← hrest.out, Hd.out, List.all_cons, lokB]; simp [h12])
        clear h2 h12
        go_wp2
        go_ret
        exact ⟨by rw [hlast.out]; rfl, B1.out⟩
      have e12 : ¬ (12 : Int) < (xs.length : Int) := by omega
      have H2 := Lib.hid h2
      have hrow2 : Hid ((prsB (xs.drop (2 * 0)) && (o.bs.drop (m + 1)).all lokB) = r) := Lib.hid (by rw [← hrest.out, Hd.out, List.all_cons, lokB]; simp [h2, h12])
      have hge : Hid (Exists fun n => xs.length = 2 * n) := Lib.hid ⟨xs.length / 2, by omega⟩
      clear h2 hrest
      obtain ⟨wo, rfl⟩ : ∃ wo : World, wo = w1 := ⟨_, rfl⟩
      go_wp2
      go_loop [7] (fun j => ∃ q : Nat, 2 * q ≤ xs.length ∧ j = .int .i64 (2 * q : Nat) ∧ Hid ((prsB (xs.drop (2 * q)) && (o.bs.drop (m + 1)).all lokB) = r)) (fun j => xs.length + 1 - (intOf j).toNat)
      case atStart => exact ⟨0, Nat.zero_le _, rfl, hrow2⟩
      case round =>
        obtain ⟨q, hq, rfl, hrest⟩ := hrel
        clear hrow2 e2 e12 hx0 c5
        by_cases hlq : 2 * q < xs.length
        · have hlq1 : 2 * q + 1 < xs.length := by have := H2.out; omega
          obtain ⟨b1, off1, x, hA1, hb1, hx, -, hx0⟩ := Hw.out.int_ hlq
          obtain ⟨b2, off2, y, hA2, hb2, hy, -, hy0⟩ := Hw.out.int_ hlq1
          subst hA1
          injection hA2 with hA2
          injection hA2 with e1 e3
          subst e1
          subst e3
          have Hp := Lib.hid (prsB_two hx hy)
          have hb1w : b1 < wo.heap.size := by omega
          have hlq' : ((2 * q : Nat) : Int) < (xs.length : Int) := by omega
          have hlq1' : ((2 * q : Nat) : Int) + 1 < (xs.length : Int) := by omega
          clear hx hy
          rcases Bool.eq_false_or_eq_true (inB x 0 2) with he | he
          rotate_left
          · have He := Lib.hid he
            clear he
            have hlast : Hid (r = false) := Lib.hid (by rw [← hrest.out, Hp.out, He.out]; rfl)
            go_wp2_with fail
            refine (l1In_b x 0 2 _ _ He).mono ?_
            rintro e w' ⟨rfl, rfl⟩
            go_wp2
            go_ret
            exact ⟨by rw [hlast.out]; rfl, B1.out⟩
          have He := Lib.hid he
          clear he
          rcases Bool.eq_false_or_eq_true (inB y 0 3) with he | he
          rotate_left
          · have He2 := Lib.hid he
            clear he
            have hlast : Hid (r = false) := Lib.hid (by rw [← hrest.out, Hp.out, He.out, He2.out]; rfl)
            go_wp2_with fail
            refine (l1In_b x 0 2 _ _ He).mono ?_
            rintro e w' ⟨rfl, rfl⟩
            go_wp2_with fail
            refine (l1In_b y 0 3 _ _ He2).mono ?_
            rintro e w' ⟨rfl, rfl⟩
            go_wp2
            go_ret
            exact ⟨by rw [hlast.out]; rfl, B1.out⟩
          have He2 := Lib.hid he
          clear he
          go_wp2_with fail
          refine (l1In_b x 0 2 _ _ He).mono ?_
          rintro e w' ⟨rfl, rfl⟩
          go_wp2_with fail
          refine (l1In_b y 0 3 _ _ He2).mono ?_
          rintro e w' ⟨rfl, rfl⟩
          go_wp2
          go_round
          case rel => exact ⟨q + 1, by omega, by go_num, Lib.hid (by
            have := hrest.out
            rw [Hp.out, He.out, He2.out] at this
            simpa [Nat.mul_add] using this)⟩
          case measure => simp [intOf]; omega
        · have hnext : Hid ((o.bs.drop (m + 1)).all lokB = r) := Lib.hid (by
            have := hrest.out
            rw [List.drop_eq_nil_of_le (by omega)] at this
            simpa [prsB] using this)
          have hge : ¬ ((2 * q : Nat) : Int) < (xs.length : Int) := by omega
          clear hrest
          go_wp2
          go_round
          case rel => exact ⟨m + 1, by omega, by go_num, hnext⟩
          case measure => simp [intOf]; omega
    · have hlast : Hid (r = true) := Lib.hid (by
        have := hrest.out
        rw [List.drop_eq_nil_of_le (by omega)] at this
        rw [← this]; rfl)
      go_wp2
      go_ret
      exact ⟨by rw [hlast.out]; rfl, B1.out⟩
end Go.Proofs.Ytnadihepgmbhaaa
namespace Go.Proofs.Ytnadihepgmbhaaa
open Go.RowKit Pl Go.BigFrame
set_option maxHeartbeats 4000000
set_option maxRecDepth 100000
set_option linter.unusedVariables false

def sprB (L : Pg) (o : Buf) : Bool := (stB L o.st && decide (o.bs.length = L.length * 3)) && o.bs.all vokB
end Go.Proofs.Ytnadihepgmbhaaa
namespace Go.Proofs.Ytnadihepgmbhaaa
open Go.RowKit Pl Go.BigFrame
set_option maxHeartbeats 4000000
set_option maxRecDepth 100000
set_option linter.unusedVariables false

theorem buf_row : RowT 59 6 := ⟨by kernel_rfl, _, Try.underlying59, rfl⟩
theorem sl6_one (A0 A1 A2 A3 A4 A5 : Option Addr) (n0 n1 n2 n3 n4 n5 c0 c1 c2 c3 c4 c5 : Nat) : (#[.slice A0 n0 c0, .slice A1 n1 c1, .slice A2 n2 c2, .slice A3 n3 c3, .slice A4 n4 c4, .slice A5 n5 c5] : Array Value).all (·.oneCell') = true := by simp [Value.oneCell']
/-- Rows of the call's own, put one by one below headers that were made ahead. -/
structure RwsO (w wr : World) (g n : Nat) (F : Nat → List Int) (k : Nat) : Prop where
  bel : Below w.heap.size w wr
  hd : ∃ (cs : Array Value) (D : Nat → Option Addr) (C : Nat → Nat), Bk wr g 26 cs ∧ cs.size = n ∧ (∀ j, j < k → cs[j]? = some (.slice (D j) (F j).length (C j)) ∧ OwnVs wr (g + 1) wr.heap.size 3 (D j) (ints (F j))) ∧ ∀ i j, i < j → j < k → 0 < (F i).length → 0 < (F j).length → D i ≠ D j
theorem own_where {w : World} {lo hi : Nat} {t : TypeId} {A : Option Addr} {xs : List Int} (h : OwnVs w lo hi t A (ints xs)) (hn : 0 < xs.length) : ∃ g, A = some ⟨g, 0, none⟩ ∧ lo ≤ g ∧ g < hi := by
  obtain ⟨g, cs, hA, h1, h2, _⟩ := h (by rw [ints_length]; exact hn)
  exact ⟨g, hA, h1, h2⟩
theorem RwsO.next {w wr w1 : World} {g n k c : Nat} {F : Nat → List Int} {A : Option Addr} (h : RwsO w wr g n F k) (hk : k < n) (hg : w.heap.size ≤ g) (hb : Below wr.heap.size wr w1) (ho : OwnVs w1 wr.heap.size w1.heap.size 3 A (ints (F k))) :
    RwsO w (w1.setCell ⟨g, k, none⟩ (.slice A (F k).length c)) g n F (k + 1) := by
  obtain ⟨h0, cs, D, C, hbk, hsz, hc, hd⟩ := h
  have hlt := hbk.lt
  have hz := hb.size
  have hset : ∀ i, i ≠ g → (w1.setCell ⟨g, k, none⟩ (.slice A (F k).length c)).heap[i]? = w1.heap[i]? := fun i hi => Below.heap_setCell w1 ⟨g, k, none⟩ _ i hi
  have hs2 : (w1.setCell ⟨g, k, none⟩ (.slice A (F k).length c)).heap.size = w1.heap.size := World.size_setCell ..
  refine ⟨(below_on h0 hb).setCell hg _, _, fun i => if i = k then A else D i, fun i => if i = k then c else C i, (hbk.below hb hlt).set _ _, by simpa using hsz, ?_, ?_⟩
  · intro j hj
    by_cases e : j = k
    · subst e
      simp only [if_true]
      refine ⟨by simp [hsz, hk], ?_⟩
      rw [hs2]
      exact ho.keep (by omega) (Nat.le_refl _) fun i h1 h2 => hset i (by omega)
    · simp only [if_neg e]
      obtain ⟨g0, g1⟩ := hc j (by omega)
      refine ⟨by rw [Array.getElem?_setIfInBounds_ne (by omega)]; exact g0, ?_⟩
      rw [hs2]
      exact g1.keep (Nat.le_refl _) hz fun i h1 h2 => (hset i (by omega)).trans (hb.block i h2)
  · intro i j hij hj hi0 hj0
    by_cases e : j = k
    · subst e
      have e' : i ≠ j := by omega
      simp only [if_true, if_neg e']
      obtain ⟨ga, ea, _, h2⟩ := own_where (hc i (by omega)).2 hi0
      obtain ⟨gb, eb, h3, _⟩ := own_where ho hj0
      rw [ea, eb]
      intro e
      injection e with e
      injection e with e
      omega
    · have e' : i ≠ k := by omega
      simp only [if_neg e, if_neg e']
      exact hd i j hij (by omega) hi0 hj0
theorem RwsO.done {w wr : World} {g n lo : Nat} {F : Nat → List Int} (h : RwsO w wr g n F n) (hl : lo ≤ g) (c : Nat) : IssO wr lo wr.heap.size ⟨some ⟨g, 0, none⟩, c⟩ ((List.range n).map F) := ⟨fun _ => by
  obtain ⟨_, cs, D, C, hbk, _, hc, hd⟩ := h
  have at_ : ∀ {i : Nat} {vs : List Value}, (vsIss ((List.range n).map F))[i]? = some vs → i < n ∧ vs = ints (F i) := by
    intro i vs hi
    obtain ⟨xs, hx, rfl⟩ := vsIss_inv hi
    have hl := (List.getElem?_eq_some_iff.1 hx).1
    rw [List.length_map, List.length_range] at hl
    rw [List.getElem?_map, List.getElem?_range hl] at hx
    simp at hx
    exact ⟨hl, by rw [hx]⟩
  refine ⟨g, cs, D, C, rfl, hl, hbk.lt, hbk, ?_, ?_⟩
  · intro i vs hi
    obtain ⟨h1, rfl⟩ := at_ hi
    obtain ⟨g0, g1⟩ := hc i h1
    rw [ints_length]
    exact ⟨g0, g1.keep (by omega) (Nat.le_refl _) fun _ _ _ => rfl⟩
  · intro i j vs us hij hi hj h0 h1
    obtain ⟨_, rfl⟩ := at_ hi
    obtain ⟨h2, rfl⟩ := at_ hj
    rw [ints_length] at h0 h1
    exact hd i j hij h2 h0 h1⟩

/-- The record of words. -/
def bufOf (L : Pg) (f : Nat → Nat) (b : Nat → List Nat) : Buf := ⟨staF L f, (List.range L.length).map fun t => rowS (b t)⟩
def sprOf (L : Pg) (f : Nat → Nat) (b : Nat → List Nat) : Buf := ⟨staF L f, (List.range (L.length * 3)).map fun t => rowV (b t)⟩
theorem bufOf_len (L : Pg) (f : Nat → Nat) (b : Nat → List Nat) : (bufOf L f b).bs.length = L.length := by simp [bufOf]
/-- An answer of a record that is the call's own. -/
def AnsB (w : World) (o : Buf) (e : Ending) (w' : World) : Prop := ∃ k, e = .returned (BufV k o) ∧ Below w.heap.size w w' ∧ w.heap.size < w'.heap.size ∧ BufO w' w.heap.size w'.heap.size k o
theorem unpbuf_any (h : PgH) (L : Pg) (f : Nat → Nat) (b : Nat → List Nat) (w : World) (hL : progB L = true) (hf : okF WS f) (hb : okB9 b 7) :
    Calls Try.prog 85 #[PgV h L, QV 1 f b] w (AnsB w (bufOf L f b)) := by
  obtain ⟨h31, h32⟩ := prog_len hL
  obtain ⟨n, hn⟩ : ∃ n, L.length = n := ⟨_, rfl⟩
  have hn9 : n ≤ 9 := by omega
  obtain ⟨W, hW⟩ : ∃ W, W = ((w.alloc (.cells #[.slice h.A L.length h.c] 36)).alloc (.cells (mkQ 1 (enc WS f) (mk9 b) fun i => bwC (b i)) TQ)).alloc (.cells #[.slice none 0 0, .slice none 0 0, .slice none 0 0, .slice none 0 0, .slice none 0 0, .slice none 0 0] 59) := ⟨_, rfl⟩
  have bW : Below w.heap.size w W := by rw [hW]; go_grown
  have sW : W.heap.size = w.heap.size + 1 + 1 + 1 := by rw [hW]; simp
  have k0 : Bk W w.heap.size 36 #[.slice h.A L.length h.c] := by rw [hW]; exact ((Bk.new w _ _).alloc _).alloc _
  have k1 : Bk W (w.heap.size + 1) TQ (mkQ 1 (enc WS f) (mk9 b) fun i => bwC (b i)) := by
    rw [hW]; have := (Bk.new (w.alloc (.cells #[.slice h.A L.length h.c] 36)) (mkQ 1 (enc WS f) (mk9 b) fun i => bwC (b i)) TQ).alloc (.cells #[.slice none 0 0, .slice none 0 0, .slice none 0 0, .slice none 0 0, .slice none 0 0, .slice none 0 0] 59)
    rwa [World.size_alloc] at this
  have k2 : Bk W (w.heap.size + 1 + 1) 59 #[.slice none 0 0, .slice none 0 0, .slice none 0 0, .slice none 0 0, .slice none 0 0, .slice none 0 0] := by
    rw [hW]; have := Bk.new ((w.alloc (.cells #[.slice h.A L.length h.c] 36)).alloc (.cells (mkQ 1 (enc WS f) (mk9 b) fun i => bwC (b i)) TQ)) #[.slice none 0 0, .slice none 0 0, .slice none 0 0, .slice none 0 0, .slice none 0 0, .slice none 0 0] 59
    rwa [World.size_alloc, World.size_alloc] at this
  obtain ⟨i0, hi, hz0, hz1, hz2⟩ := info_parts info_il
  have hmk := make_any Try.underlying29 hi hz0 n (by rw [hz2]; omega) (by omega)
  rw [hz1, Nat.mul_one] at hmk
  have start := Lib.hid (show RwsO w (W.alloc (.cells (madeCells #[.slice none 0 0] n) 26)) (W.heap.size) n (fun t => rowS (b t)) 0 from by
    exact ⟨bW.alloc (by omega) _, _, fun _ => none, fun _ => 0, Bk.new _ _ _, by simp [size_madeCells], fun j hj => absurd hj (by omega), fun i j _ hj => absurd hj (by omega)⟩)
  have st0 := Lib.hid (show Bk (W.alloc (.cells (madeCells #[.slice none 0 0] n) 26)) w.heap.size 36 #[.slice h.A L.length h.c] from k0.alloc _)
  have st1 := Lib.hid (show Bk (W.alloc (.cells (madeCells #[.slice none 0 0] n) 26)) (w.heap.size + 1) TQ (mkQ 1 (enc WS f) (mk9 b) fun i => bwC (b i)) from k1.alloc _)
  have st2 := Lib.hid (show Bk (W.alloc (.cells (madeCells #[.slice none 0 0] n) 26)) (w.heap.size + 1 + 1) 59 #[.slice none 0 0, .slice none 0 0, .slice none 0 0, .slice none 0 0, .slice none 0 0, .slice none 0 0] from k2.alloc _)
  have stz : Hid (W.heap.size < (W.alloc (.cells (madeCells #[.slice none 0 0] n) 26)).heap.size) := Lib.hid (by simp [sW])
  have HF := Lib.hid hf
  have Hb := Lib.hid hb
  have HN0 := Lib.hid hn
  have HW := Lib.hid hW
  have sWa := Nat.le_of_eq sW
  have sWb := Nat.le_of_eq sW.symm
  have cpl := k0.lt
  have cp' : W.cell? ⟨w.heap.size, 0, none⟩ = some (.slice h.A L.length h.c) := k0.cell 0
  have hni : (L.length : Int) = (n : Int) := by omega
  clear hz0 hz1 hz2 hi hW bW sW k0 k1 k2 hf hb hn
  go_enter Try.func85, Try.ntmps85
  go_wp2_with (rw [← HW.out])
  clear hmk cp' cpl
  go_loopw [13] (fun i wr => ∃ k : Nat, k ≤ n ∧ i = .int .i64 k ∧ RwsO w wr (W.heap.size) n (fun t => rowS (b t)) k ∧ Bk wr w.heap.size 36 #[.slice h.A L.length h.c] ∧ Bk wr (w.heap.size + 1) TQ (mkQ 1 (enc WS f) (mk9 b) fun i => bwC (b i)) ∧ Bk wr (w.heap.size + 1 + 1) 59 #[.slice none 0 0, .slice none 0 0, .slice none 0 0, .slice none 0 0, .slice none 0 0, .slice none 0 0]) (fun i _ => n - (intOf i).toNat)
  case atStart => exact ⟨0, Nat.zero_le _, rfl, start.out, st0.out, st1.out, st2.out⟩
  case round =>
    obtain ⟨k, hk, rfl, hrw, hp, hq, hr⟩ := hrel
    clear start st0 st1 st2 stz
    have hz := hrw.bel.size
    by_cases hlt : k < n
    · have hk9 : k < 9 := by omega
      obtain ⟨hbk1, hbk2⟩ := Hb.out k hk9
      have ck : wr.cell? ⟨w.heap.size + 1, 2 + k, none⟩ = some (.int .u64 (bwC (b k) : Nat)) := (hq.cell (2 + k)).trans (mkQ_k _ _ _ _ hk9)
      have lq := hq.lt
      have lp := hp.lt
      have lr := hr.lt
      obtain ⟨cs, D, C, hbk, hsz, hcs, hds⟩ := id hrw.hd
      obtain ⟨v0, e0⟩ := hbk.some_ (i := k) (by omega)
      have q0 := hbk.free k
      have lg := hbk.lt
      have BL := Lib.hid (fun v => buflist_any (b k) v hbk1 hbk2)
      have HRw := Lib.hid hrw
      have HP := Lib.hid hp
      have HQ := Lib.hid hq
      have HRr := Lib.hid hr
      have hti : (k : Int) < (n : Int) := by omega
      have hki : (k : Int) < 9 := by omega
      have hl2 : Hid ((rowS (b k)).length = 2 * (b k).length) := Lib.hid (rowS_length _)
      clear hbk hcs hds hrw hp hq hr hbk1 hbk2
      generalize hW2 : bwC (b k) = W2 at ck
      rw [hW2] at BL
      clear hW2
      go_wp2_with fail
      refine (BL.out _).mono ?_
      rintro e w1 ⟨A, c, rfl, hb1, own⟩
      have z1 := hb1.size
      obtain ⟨hc1, hf1⟩ := bcell hb1
      have HN := Lib.hid (HRw.out.next hlt (by omega) hb1 own (c := c))
      have kset : ∀ {g : Nat} {t : TypeId} {cs : Array Value}, Bk wr g t cs → g ≠ W.heap.size → Bk (w1.setCell ⟨W.heap.size, k, none⟩ (.slice A (rowS (b k)).length c)) g t cs := fun hg hne => (hg.below hb1 hg.lt).far (p := ⟨W.heap.size, k, none⟩) hne _
      have HP1 := Lib.hid (kset HP.out (by omega))
      have HQ1 := Lib.hid (kset HQ.out (by omega))
      have HR1 := Lib.hid (kset HRr.out (by omega))
      rw [hl2.out] at HN HP1 HQ1 HR1
      clear hb1 own kset ck
      go_wp2
      go_roundw
      case rel => exact ⟨k + 1, by omega, by go_num, HN.out, HP1.out, HQ1.out, HR1.out⟩
      case measure => simp [intOf]; omega
    · have hkl : k = n := by omega
      subst hkl
      have cP : wr.cell? ⟨w.heap.size, 0, none⟩ = some (.slice h.A L.length h.c) := hp.cell 0
      have cQ : wr.cell? ⟨w.heap.size + 1, 1, none⟩ = some (.int .u64 (enc WS f : Nat)) := (hq.cell 1).trans (mkQ_1 _ _ _ _)
      have lq := hq.lt
      have lp := hp.lt
      have HRw := Lib.hid hrw
      have HRr := Lib.hid hr
      clear hp hq hr hrw
      go_wp2_with fail
      refine (unpacked_any h L f wr hL HF.out).mono ?_
      rintro e w1 ⟨hs, rfl, hb1, hl1, own⟩
      have B1 := Lib.hid (below_on HRw.out.bel hb1)
      have K2 := Lib.hid (HRr.out.below hb1 HRr.out.lt)
      have Own := Lib.hid own
      have IO := Lib.hid ((HRw.out.done (lo := W.heap.size) (Nat.le_refl _) k).below hb1 (Nat.le_refl _))
      have lg : W.heap.size < wr.heap.size := by obtain ⟨cs, D, C, hbk, _⟩ := HRw.out.hd; exact hbk.lt
      have z1 := hb1.size
      clear hb1 own cP cQ
      go_wp2_with (refine st_r buf_row rfl _ _ rfl (w.heap.size + 1 + 1) rfl 59 _ #[.slice hs.A0 (staF L f).f0.length hs.c0, .slice hs.A1 (staF L f).f1.length hs.c1, .slice hs.A2 (staF L f).f2.length hs.c2, .slice hs.A3 (staF L f).f3.length hs.c3, .slice hs.A4 (staF L f).f4.length hs.c4, .slice (some ⟨W.heap.size, 0, none⟩) k k] rfl K2.out rfl rfl (sl6_one _ _ _ _ _ _ _ _ _ _ _ _ _ _ _ _ _ _) ?_; intro V3 s3)
      refine bodyPost_ret (v := .agg #[.slice hs.A0 (staF L f).f0.length hs.c0, .slice hs.A1 (staF L f).f1.length hs.c1, .slice hs.A2 (staF L f).f2.length hs.c2, .slice hs.A3 (staF L f).f3.length hs.c3, .slice hs.A4 (staF L f).f4.length hs.c4, .slice (some ⟨W.heap.size, 0, none⟩) k k]) (res_r buf_row rfl rfl s3.bk rfl) rfl ?_
      have hsz := s3.size
      refine ⟨⟨hs, ⟨some ⟨W.heap.size, 0, none⟩, k⟩⟩, by rw [← HN0.out]; simp [BufV, bufOf], B1.out.trans (s3.bel _ (by omega)), by omega, wr.heap.size, w1.heap.size, W.heap.size, wr.heap.size, by omega, by omega, by omega, by omega, Or.inr (Nat.le_refl _), ?_, ?_⟩
      · exact Own.out.keep (Nat.le_refl _) (Nat.le_refl _) fun q h1 h2 => s3.far q (by omega)
      · have := IO.out.keep (Nat.le_refl _) (Nat.le_refl _) fun q h1 h2 => s3.far q (by omega)
        rw [← HN0.out] at this ⊢
        exact this
end Go.Proofs.Ytnadihepgmbhaaa
namespace Go.Proofs.Ytnadihepgmbhaaa
open Go.RowKit Pl Go.BigFrame
set_option maxHeartbeats 1000000
set_option maxRecDepth 100000
set_option linter.unusedVariables false

/-- The codes of a record's buffers. -/
def cdsB (o : Buf) : Nat → List Nat := fun t => cdR (o.bs.getD t [])
def cdsV (o : Buf) : Nat → List Nat := fun t => cdV (t % 3) (o.bs.getD t [])
def part (b : Nat → List Nat) (k : Nat) : Nat → List Nat := fun t => if t < k then b t else []
theorem part_0 (b : Nat → List Nat) : part b 0 = fun _ => [] := by funext t; unfold part; rw [if_neg (by omega)]
theorem part_next (b : Nat → List Nat) (k : Nat) : updB (part b k) k (b k) = part b (k + 1) := by
  funext t
  unfold updB part
  by_cases e : t = k
  · subst e; rw [if_pos rfl, if_pos (by omega)]
  · rw [if_neg e]
    by_cases h : t < k
    · rw [if_pos h, if_pos (by omega)]
    · rw [if_neg h, if_neg (by omega)]
theorem getD_row {o : Buf} {k : Nat} {xs : List Int} (hx : o.bs[k]? = some xs) : o.bs.getD k [] = xs := by simp [List.getD, hx]
theorem getD_off {o : Buf} {k : Nat} (h : o.bs.length ≤ k) : o.bs.getD k [] = [] := by simp [List.getD, List.getElem?_eq_none h]
theorem cdsB_row {o : Buf} (hok : ∀ xs ∈ o.bs, lokB xs = true) {k : Nat} {xs : List Int} (hx : o.bs[k]? = some xs) : rowS (cdsB o k) = xs ∧ okS (cdsB o k) ∧ (cdsB o k).length ≤ 6 := by
  unfold cdsB
  rw [getD_row hx]
  obtain ⟨h1, h2, h3⟩ := lok_parts (hok xs (List.mem_of_getElem? hx))
  exact ⟨h3, h1, h2⟩
theorem cdsV_row {o : Buf} (hok : ∀ xs ∈ o.bs, vokB xs = true) {k : Nat} {xs : List Int} (hx : o.bs[k]? = some xs) : rowV (cdsV o k) = xs ∧ okS (cdsV o k) ∧ (cdsV o k).length ≤ 6 ∧ (∀ c ∈ cdsV o k, c / 4 = k % 3) ∧ cdsV o k = cdV (k % 3) xs := by
  unfold cdsV
  rw [getD_row hx]
  obtain ⟨h1, h2, h3, h4⟩ := vok_parts (p := k % 3) (by omega) (hok xs (List.mem_of_getElem? hx))
  exact ⟨h3, h1, h2, h4, rfl⟩
theorem cdsB_off {o : Buf} {t : Nat} (h : o.bs.length ≤ t) : cdsB o t = [] := by
  unfold cdsB; rw [getD_off h]; rfl
theorem part_all {b : Nat → List Nat} {n : Nat} (h : ∀ t, n ≤ t → b t = []) : part b n = b := by
  funext t
  unfold part
  split
  · rfl
  · exact (h t (by omega)).symm
theorem packbuf_any (h : PgH) (L : Pg) (k : BufH) (o : Buf) (w : World) (B : Nat) (hP : PgR w B h L) (hS : BufR w B k o) (hB : B ≤ w.heap.size) (P : StP L o.st) (hlen : o.bs.length = L.length) (hok : ∀ xs ∈ o.bs, lokB xs = true) :
    Calls Try.prog 89 #[PgV h L, BufV k o] w fun e w' => e = .returned (QV 1 (wdF L o.st) (cdsB o)) ∧ Below w.heap.size w w' := by
  have h32 := P.n3
  have bl : o.bs.length ≤ 9 := by omega
  clear hlen
  obtain ⟨W, hW⟩ : ∃ W, W = ((w.alloc (.cells #[.slice h.A L.length h.c] 36)).alloc (.cells #[.slice k.h.A0 o.st.f0.length k.h.c0, .slice k.h.A1 o.st.f1.length k.h.c1, .slice k.h.A2 o.st.f2.length k.h.c2, .slice k.h.A3 o.st.f3.length k.h.c3, .slice k.h.A4 o.st.f4.length k.h.c4, .slice k.k.A o.bs.length k.k.c] 59)).alloc (.cells Z12 TQ) := ⟨_, rfl⟩
  have bW : Below w.heap.size w W := by rw [hW]; go_grown
  have sW : W.heap.size = w.heap.size + 1 + 1 + 1 := by rw [hW]; simp
  have k0 : Bk W w.heap.size 36 #[.slice h.A L.length h.c] := by rw [hW]; exact ((Bk.new w _ _).alloc _).alloc _
  have k1 : Bk W (w.heap.size + 1) 59 #[.slice k.h.A0 o.st.f0.length k.h.c0, .slice k.h.A1 o.st.f1.length k.h.c1, .slice k.h.A2 o.st.f2.length k.h.c2, .slice k.h.A3 o.st.f3.length k.h.c3, .slice k.h.A4 o.st.f4.length k.h.c4, .slice k.k.A o.bs.length k.k.c] := by
    rw [hW]; have := (Bk.new (w.alloc (.cells #[.slice h.A L.length h.c] 36)) #[.slice k.h.A0 o.st.f0.length k.h.c0, .slice k.h.A1 o.st.f1.length k.h.c1, .slice k.h.A2 o.st.f2.length k.h.c2, .slice k.h.A3 o.st.f3.length k.h.c3, .slice k.h.A4 o.st.f4.length k.h.c4, .slice k.k.A o.bs.length k.k.c] 59).alloc (.cells Z12 TQ)
    rwa [World.size_alloc] at this
  have k2 : Bk W (w.heap.size + 1 + 1) TQ Z12 := by
    rw [hW]; have := Bk.new ((w.alloc (.cells #[.slice h.A L.length h.c] 36)).alloc (.cells #[.slice k.h.A0 o.st.f0.length k.h.c0, .slice k.h.A1 o.st.f1.length k.h.c1, .slice k.h.A2 o.st.f2.length k.h.c2, .slice k.h.A3 o.st.f3.length k.h.c3, .slice k.h.A4 o.st.f4.length k.h.c4, .slice k.k.A o.bs.length k.k.c] 59)) Z12 TQ
    rwa [World.size_alloc, World.size_alloc] at this
  have P0 := Lib.hid (hP.below bW hB)
  have Q0 := Lib.hid (hS.below bW hB)
  have K1 := Lib.hid k1
  have K2 := Lib.hid k2
  have BW := Lib.hid bW
  have HW := Lib.hid hW
  have sWa := Nat.le_of_eq sW
  have sWb := Nat.le_of_eq sW.symm
  clear hW bW sW k0 k1 k2 hP hS
  go_enter Try.func89, Try.ntmps89
  go_wp2_with fail
  rw [← HW.out]
  have key := packed_any h L k.h o.st W B P0.out Q0.out.s (by omega) P
  refine key.mono ?_
  clear key
  rintro e w1 ⟨rfl, hb1⟩
  obtain ⟨f, hf⟩ : ∃ f, wdF L o.st = f := ⟨_, rfl⟩
  rw [hf]
  have HFf := Lib.hid hf
  clear hf
  have z1 := hb1.size
  have B1 := Lib.hid (below_on BW.out hb1)
  have K11 := Lib.hid (K1.out.below hb1 K1.out.lt)
  have K21 := Lib.hid (K2.out.below hb1 K2.out.lt)
  have Q1 := Lib.hid (Q0.out.below hb1 (by omega))
  clear hb1
  have c5 : w1.cell? ⟨w.heap.size + 1, 5, none⟩ = some (.slice k.k.A o.bs.length k.k.c) := K11.out.cell 5
  have l5 := K11.out.lt
  obtain ⟨cd, hcd⟩ : ∃ cd, cdsB o = cd := ⟨_, rfl⟩
  obtain ⟨bs, hbs⟩ : ∃ bs, o.bs = bs := ⟨_, rfl⟩
  obtain ⟨A, c, hA, hc⟩ : ∃ A c, k.k.A = A ∧ k.k.c = c := ⟨_, _, rfl, rfl⟩
  rw [hA, hc] at c5
  rw [hbs] at c5
  have hbl : bs.length ≤ 9 := by rw [← hbs]; exact bl
  have V1 := Lib.hid (show Vss w1 B A (vsIss bs) from hA ▸ hbs ▸ Q1.out.b.v)
  have HOK : Hid (∀ (k : Nat) (xs : List Int), bs[k]? = some xs → rowS (cd k) = xs ∧ okS (cd k) ∧ (cd k).length ≤ 6) := Lib.hid (fun k xs hx => by rw [← hcd]; exact cdsB_row hok (by rw [hbs]; exact hx))
  have HAll : Hid (part cd bs.length = cd) := Lib.hid (by rw [← hcd, ← hbs]; exact part_all fun t ht => cdsB_off ht)
  have HCd := Lib.hid hcd
  clear hA hc hbs Q1 hcd hok
  go_wp2_with fail
  obtain ⟨wq, hwq⟩ : ∃ V, V = w1.alloc (.cells (mkQ 1 (enc WS f) 0 fun _ => 0) TQ) := ⟨_, rfl⟩
  have hwq' : wq = w1.alloc (.cells #[.int .i64 1, .int .u64 (enc WS f : Nat), .int .u64 0, .int .u64 0, .int .u64 0, .int .u64 0, .int .u64 0, .int .u64 0, .int .u64 0, .int .u64 0, .int .u64 0, .int .u64 0] TQ) := hwq
  rw [← hwq']
  have bq : Below w1.heap.size w1 wq := by rw [hwq]; exact (Below.refl _ _).alloc (Nat.le_refl _) _
  have kq : Bk wq w1.heap.size TQ (mkQ 1 (enc WS f) (mk9 (part cd 0)) fun i => bwC (part cd 0 i)) := by rw [hwq, part_0]; exact Bk.new _ _ _
  have K22 := K21.out.below bq K21.out.lt
  have start := Lib.hid (And.intro bq (And.intro kq K22))
  clear hwq hwq' bq kq K22 c5
  go_loopw [16] (fun i wr => ∃ m : Nat, m ≤ bs.length ∧ i = .int .i64 m ∧ Below w1.heap.size w1 wr ∧ Bk wr w1.heap.size TQ (mkQ 1 (enc WS f) (mk9 (part cd m)) fun i => bwC (part cd m i)) ∧ Bk wr (w.heap.size + 1 + 1) TQ Z12) (fun i _ => bs.length - (intOf i).toNat)
  case atStart => exact ⟨0, Nat.zero_le _, rfl, start.out⟩
  case round =>
    obtain ⟨m, hm, rfl, hb, hq, hr⟩ := hrel
    clear start
    have hz := hb.size
    by_cases hlt : m < bs.length
    · have hm9 : m < 9 := by omega
      obtain ⟨xs, hxs, -⟩ := drop_at hlt
      obtain ⟨ab, off, Ai, ci, rfl, hab, hx0, hrow⟩ := (V1.out.below hb (by omega)).at_ (vsIss_at hxs)
      rw [ints_length] at hx0
      obtain ⟨r1, r2, r3⟩ := HOK.out m xs hxs
      have habw : ab < wr.heap.size := by omega
      have HRow := Lib.hid hrow
      have HQ := Lib.hid hq
      have HRr := Lib.hid hr
      have HB1 := Lib.hid hb
      have lq := hq.lt
      have lr := hr.lt
      have hti : (m : Int) < (bs.length : Int) := by omega
      have HS := Lib.hid (fr_none wr)
      haveI hne := Nonempty.intro (Ws.mk _ (fr_none wr))
      have GK := Lib.hid (fun w' (h : In (Fr wr []) w') => (show Bk w' w1.heap.size TQ (mkQ 1 (enc WS f) (mk9 (part cd m)) fun i => bwC (part cd m i)) from by obtain ⟨x, rfl⟩ := h; exact HQ.out.below x.ok.below HQ.out.lt))
      have BWd := Lib.hid (fun (x : Ws (Fr wr [])) => bufword_any Ai (cd m) ci x.val B (by rw [r1]; exact hrow.below x.ok.below (by omega)) r2 (by omega) (by have := x.ok.below.size; omega))
      have WB := Lib.hid (fun v => withb_any 1 f (part cd m) m (cd m) v hm9)
      rw [part_next] at WB
      rw [r1] at BWd
      clear hxs hrow hq hr hb hlt
      go_wp2_with fail
      refine region_tail (C := In (Fr wr [])) 5 (by kernel_rfl) (In.mk HS.out.drew) ?_
      simp only [List.take_succ_cons, List.take_zero, List.drop_succ_cons, List.drop_zero]
      repeat (first | (refine qd_q rfl _ rfl w1.heap.size rfl TQ _ rfl GK.out ?_; simp only [Act.put, List.setIfInBounds_toArray, List.set_cons_succ, List.set_cons_zero]) | go_big_quiet_step ((first | (go_at_call 134; exact call_in (BWd.out _)) | (go_at_call 114; exact call_in (WB.out _)))))
      refine wpQuiet_nil ?_
      rintro _ ⟨y, rfl⟩
      have K5 := Lib.hid (HQ.out.below y.ok.below HQ.out.lt)
      have R5 := Lib.hid (HRr.out.below y.ok.below HRr.out.lt)
      have B5 := Lib.hid ((HB1.out).trans (y.ok.below.mono hz))
      go_wp2_with (refine st_q rfl _ _ rfl (w1.heap.size) rfl TQ _ (mkQ 1 (enc WS f) (mk9 (part cd (m + 1))) fun i => bwC (part cd (m + 1) i)) rfl K5.out rfl rfl (mkQ_one _ _ _ _) ?_; intro V3 s3)
      go_roundw
      case rel => exact ⟨m + 1, by omega, by go_num, B5.out.trans (s3.bel _ (Nat.le_refl _)), s3.bk, s3.other R5.out (by omega)⟩
      case measure => simp [intOf]; omega
    · have hml : m = bs.length := by omega
      subst hml
      have HQ : Hid (Bk wr w1.heap.size TQ (mkQ 1 (enc WS f) (mk9 cd) fun i => bwC (cd i))) := Lib.hid (by rw [HAll.out] at hq; exact hq)
      have HRr := Lib.hid hr
      have B3 := Lib.hid (B1.out.trans (hb.mono (by omega)))
      clear hq hr hb
      go_wp2_with (first | (refine ld_q rfl _ rfl w1.heap.size rfl TQ _ HQ.out rfl ?_) | (refine st_q rfl _ _ rfl (w.heap.size + 1 + 1) rfl TQ _ _ rfl HRr.out rfl rfl (mkQ_one _ _ _ _) ?_; intro V3 s3))
      exact bodyPost_ret (v := QV 1 f cd) (res_q rfl rfl s3.bk rfl) rfl ⟨by rw [HFf.out, HCd.out], B3.out.trans (s3.bel _ (by omega))⟩
end Go.Proofs.Ytnadihepgmbhaaa
