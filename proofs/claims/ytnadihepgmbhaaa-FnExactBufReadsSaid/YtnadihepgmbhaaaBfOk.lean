/-
  Whether a record is a state with buffers: what BufOk comes to, in the program and in the reference model.
-/
import Derived.Test.YtnadihepgmbhaaaBuf
import Derived.Test.YtnadihepgmbhaaaBfP
import Derived.Test.YtnadihepgmbhaaaStOk
namespace Go.Proofs.Ytnadihepgmbhaaa
open Go.RowKit Pl Go.BigFrame
set_option maxHeartbeats 4000000
set_option maxRecDepth 100000
set_option linter.unusedVariables false

def bufB (L : Pg) (o : Buf) : Bool := (stB L o.st && decide (o.bs.length = L.length)) && o.bs.all lokB
theorem prsB_two {xs : List Int} {k : Nat} {a b : Int} (h1 : xs[k]? = some a) (h2 : xs[k + 1]? = some b) : prsB (xs.drop k) = (inB a 0 2 && (inB b 0 3 && prsB (xs.drop (k + 2)))) := by
  have e : xs.drop k = a :: b :: xs.drop (k + 2) := by
    obtain ⟨l1, g1⟩ := List.getElem?_eq_some_iff.1 h1
    obtain ⟨l2, g2⟩ := List.getElem?_eq_some_iff.1 h2
    rw [List.drop_eq_getElem_cons l1, List.drop_eq_getElem_cons l2, g1, g2]
  rw [e, prsB]

theorem blok_any (A : Option Addr) (xs : List Int) (c : Nat) (w : World) (B : Nat) (h : Vs w B A (ints xs)) (hm : xs.length ≤ maxLen) (r : Bool) (hr : Hid (lokB xs = r)) :
    Calls Try.prog 133 #[.slice A xs.length c] w fun e w' => e = .returned (.bool r) ∧ w = w' := by
  unfold maxLen at hm
  by_cases h2 : xs.length % 2 = 0
  rotate_left
  · have e2 : Int.tmod (xs.length : Int) 2 = 1 := by rw [Int.tmod_eq_emod_of_nonneg (by omega)]; omega
    have hfin : Hid (r = false) := Lib.hid (by rw [← hr.out, lokB]; simp [h2])
    clear hr h2
    go_enter Try.func133, Try.ntmps133
    go_wp2
    go_ret
    exact ⟨by rw [hfin.out]; rfl, rfl⟩
  have e2 : Int.tmod (xs.length : Int) 2 = 0 := by rw [Int.tmod_eq_emod_of_nonneg (by omega)]; omega
  have H2 := Lib.hid h2
  by_cases h12 : xs.length ≤ 12
  rotate_left
  · have e12 : (12 : Int) < (xs.length : Int) := by omega
    have hfin : Hid (r = false) := Lib.hid (by rw [← hr.out, lokB]; simp [h12])
    clear hr h2 h12
    go_enter Try.func133, Try.ntmps133
    go_wp2
    go_ret
    exact ⟨by rw [hfin.out]; rfl, rfl⟩
  have e12 : ¬ (12 : Int) < (xs.length : Int) := by omega
  have hfin : Hid (prsB (xs.drop (2 * 0)) = r) := Lib.hid (by rw [← hr.out, lokB]; simp [h2, h12])
  clear hr h2
  go_enter Try.func133, Try.ntmps133
  go_wp2
  go_loop [3] (fun i => ∃ k : Nat, 2 * k ≤ xs.length ∧ i = .int .i64 (2 * k + 1 : Nat) ∧ Hid (prsB (xs.drop (2 * k)) = r)) (fun i => xs.length + 1 - (intOf i).toNat)
  case atStart => exact ⟨0, Nat.zero_le _, rfl, hfin⟩
  case round =>
    obtain ⟨k, hk, rfl, hrest⟩ := hrel
    clear hfin e2 e12
    by_cases hlt : 2 * k + 1 < xs.length
    · obtain ⟨b, off, x, hA, hb, hx, -, hx0⟩ := h.int_ (k := 2 * k) (by omega)
      obtain ⟨b', off', y, hA', hb', hy, -, hy0⟩ := h.int_ hlt
      subst hA
      injection hA' with hA'
      injection hA' with e1 e3
      subst e1
      subst e3
      have Hp := Lib.hid (prsB_two hx hy)
      have hi0 : ((2 * k + 1 : Nat) : Int) - 1 = ((2 * k : Nat) : Int) := by omega
      clear hx hy
      rcases Bool.eq_false_or_eq_true (inB x 0 2) with he | he
      rotate_left
      · have He := Lib.hid he
        clear he
        have hlast : Hid (r = false) := Lib.hid (by rw [← hrest.out, Hp.out, He.out]; rfl)
        go_wp2_with (go_at_call 76; refine (within_b _ _ _ _ _ He).mono ?_; rintro e w' ⟨rfl, rfl⟩)
        go_ret
        exact ⟨by rw [hlast.out]; rfl, rfl⟩
      have He := Lib.hid he
      clear he
      rcases Bool.eq_false_or_eq_true (inB y 0 3) with he | he
      rotate_left
      · have He2 := Lib.hid he
        clear he
        have hlast : Hid (r = false) := Lib.hid (by rw [← hrest.out, Hp.out, He.out, He2.out]; rfl)
        go_wp2_with fail
        refine (within_b x 0 2 _ _ He).mono ?_
        rintro e w' ⟨rfl, rfl⟩
        go_wp2_with fail
        refine (within_b y 0 3 _ _ He2).mono ?_
        rintro e w' ⟨rfl, rfl⟩
        go_wp2
        go_ret
        exact ⟨by rw [hlast.out]; rfl, rfl⟩
      have He2 := Lib.hid he
      clear he
      go_wp2_with fail
      refine (within_b x 0 2 _ _ He).mono ?_
      rintro e w' ⟨rfl, rfl⟩
      go_wp2_with fail
      refine (within_b y 0 3 _ _ He2).mono ?_
      rintro e w' ⟨rfl, rfl⟩
      go_wp2
      go_round
      case rel => exact ⟨k + 1, by omega, by go_num, Lib.hid (by
        have := hrest.out
        rw [Hp.out, He.out, He2.out] at this
        simpa [Nat.mul_add] using this)⟩
      case measure => simp [intOf]; omega
    · have hlast : Hid (r = true) := Lib.hid (by
        have h3 := H2.out
        have := hrest.out
        rw [List.drop_eq_nil_of_le (by omega)] at this
        rw [← this]; rfl)
      have hge : ¬ ((2 * k + 1 : Nat) : Int) < (xs.length : Int) := by omega
      go_wp2
      go_ret
      exact ⟨by rw [hlast.out]; rfl, rfl⟩

theorem ibufok_any (h : PgH) (L : Pg) (k : BufH) (o : Buf) (w : World) (B : Nat) (hP : PgR w B h L) (hS : BufR w B k o) (hB : B ≤ w.heap.size) (SP : PgS L) (LS : BufS o) (r : Bool) (hr : Hid (bufB L o = r)) :
    Calls Try.prog 88 #[PgV h L, BufV k o] w fun e w' => e = .returned (.bool r) ∧ Below w.heap.size w w' := by
  have LP := PgS_L SP
  have LL := BufS_L LS
  have LS' := StaS_L LS.s
  obtain ⟨W, hW⟩ : ∃ W, W = (w.alloc (.cells #[.slice h.A L.length h.c] 36)).alloc (.cells #[.slice k.h.A0 o.st.f0.length k.h.c0, .slice k.h.A1 o.st.f1.length k.h.c1, .slice k.h.A2 o.st.f2.length k.h.c2, .slice k.h.A3 o.st.f3.length k.h.c3, .slice k.h.A4 o.st.f4.length k.h.c4, .slice k.k.A o.bs.length k.k.c] 59) := ⟨_, rfl⟩
  have bW : Below w.heap.size w W := by rw [hW]; go_grown
  have k0 : Bk W w.heap.size 36 #[.slice h.A L.length h.c] := by rw [hW]; exact (Bk.new w _ _).alloc _
  have k1 : Bk W (w.heap.size + 1) 59 #[.slice k.h.A0 o.st.f0.length k.h.c0, .slice k.h.A1 o.st.f1.length k.h.c1, .slice k.h.A2 o.st.f2.length k.h.c2, .slice k.h.A3 o.st.f3.length k.h.c3, .slice k.h.A4 o.st.f4.length k.h.c4, .slice k.k.A o.bs.length k.k.c] := by
    rw [hW]; have := Bk.new (w.alloc (.cells #[.slice h.A L.length h.c] 36)) #[.slice k.h.A0 o.st.f0.length k.h.c0, .slice k.h.A1 o.st.f1.length k.h.c1, .slice k.h.A2 o.st.f2.length k.h.c2, .slice k.h.A3 o.st.f3.length k.h.c3, .slice k.h.A4 o.st.f4.length k.h.c4, .slice k.k.A o.bs.length k.k.c] 59
    rwa [World.size_alloc] at this
  have P0 := Lib.hid (hP.below bW hB)
  have Q0 := Lib.hid (hS.below bW hB)
  have K0 := Lib.hid k0
  have K1 := Lib.hid k1
  have B0 := Lib.hid bW
  have z0 := bW.size
  have HW := Lib.hid hW
  clear hW bW k0 k1 hP hS
  rcases Bool.eq_false_or_eq_true (stB L o.st) with hst | hst
  rotate_left
  · have hfin : Hid (r = false) := Lib.hid (by rw [← hr.out, bufB, hst]; rfl)
    have HST := Lib.hid hst
    clear hr hst
    go_enter Try.func88, Try.ntmps88
    go_wp2_with fail
    rw [← HW.out]
    refine (istok_any h L k.h o.st W B P0.out Q0.out.s (by omega) LP LS' false HST).mono ?_
    rintro e w1 ⟨rfl, hb⟩
    have B1 := Lib.hid (below_on B0.out hb)
    clear hb
    go_wp2
    go_ret
    exact ⟨by rw [hfin.out]; rfl, B1.out⟩
  have HST := Lib.hid hst
  by_cases hl : o.bs.length = L.length
  rotate_left
  · have hfin : Hid (r = false) := Lib.hid (by rw [← hr.out, bufB]; simp [hl])
    have hne : ((o.bs.length : Int) != (L.length : Int)) = true := by simp; omega
    clear hr hst hl
    go_enter Try.func88, Try.ntmps88
    go_wp2_with fail
    rw [← HW.out]
    refine (istok_any h L k.h o.st W B P0.out Q0.out.s (by omega) LP LS' true HST).mono ?_
    rintro e w1 ⟨rfl, hb⟩
    have B1 := Lib.hid (below_on B0.out hb)
    have cP : w1.cell? ⟨w.heap.size, 0, none⟩ = some (.slice h.A L.length h.c) := (K0.out.below hb K0.out.lt).cell 0
    have c5 : w1.cell? ⟨w.heap.size + 1, 5, none⟩ = some (.slice k.k.A o.bs.length k.k.c) := (K1.out.below hb K1.out.lt).cell 5
    clear hb
    go_wp2
    go_ret
    exact ⟨by rw [hfin.out]; rfl, B1.out⟩
  have hfin : Hid (o.bs.all lokB = r) := Lib.hid (by rw [← hr.out, bufB, hst]; simp [hl])
  have hne : ((o.bs.length : Int) != (L.length : Int)) = false := by simp [hl]
  clear hr hst hl
  go_enter Try.func88, Try.ntmps88
  go_wp2_with fail
  rw [← HW.out]
  refine (istok_any h L k.h o.st W B P0.out Q0.out.s (by omega) LP LS' true HST).mono ?_
  rintro e w1 ⟨rfl, hb⟩
  have B1 := Lib.hid (below_on B0.out hb)
  have Q1 := Lib.hid (Q0.out.below hb (by omega))
  have cP : w1.cell? ⟨w.heap.size, 0, none⟩ = some (.slice h.A L.length h.c) := (K0.out.below hb K0.out.lt).cell 0
  have k1 := K1.out.below hb K1.out.lt
  have K11 := Lib.hid k1
  have c5 : w1.cell? ⟨w.heap.size + 1, 5, none⟩ = some (.slice k.k.A o.bs.length k.k.c) := k1.cell 5
  have z1 := hb.size
  have l1 := k1.lt
  clear hb k1
  obtain ⟨A, c, hA, hc⟩ : ∃ A c, k.k.A = A ∧ k.k.c = c := ⟨_, _, rfl, rfl⟩
  have V1 : Hid (Vss w1 B A (vsIss o.bs)) := Lib.hid (hA ▸ Q1.out.b.v)
  have bl := LL.b.l0
  have HR := Lib.hid LL.b.l1
  unfold maxLen at bl
  rw [hA, hc] at c5
  go_wp2
  go_loop [24] (fun i => ∃ m : Nat, m ≤ o.bs.length ∧ i = .int .i64 m ∧ Hid ((o.bs.drop m).all lokB = r)) (fun i => o.bs.length - (intOf i).toNat)
  case atStart => exact ⟨0, Nat.zero_le _, rfl, by simpa using hfin⟩
  case round =>
    obtain ⟨m, hm, rfl, hrest⟩ := hrel
    clear hfin hne cP c5
    by_cases hlt : m < o.bs.length
    · obtain ⟨xs, hxs, hd⟩ := drop_at hlt
      obtain ⟨b, off, Ai, ci, rfl, hb, hx0, hrow⟩ := V1.out.at_ (vsIss_at hxs)
      rw [ints_length] at hx0
      have hl := HR.out xs (List.mem_of_getElem? hxs)
      have Hd := Lib.hid hd
      have Hw := Lib.hid hrow
      have hbw : b < w1.heap.size := by omega
      clear hd hxs hrow
      unfold maxLen at hl
      rcases Bool.eq_false_or_eq_true (lokB xs) with he | he
      all_goals
        have He := Lib.hid he
        clear he
        go_wp2_with fail
        refine (blok_any Ai xs ci _ B Hw.out (by unfold maxLen; omega) _ He).mono ?_
        rintro e w' ⟨rfl, rfl⟩
        go_wp2
      · go_round
        case rel => exact ⟨m + 1, by omega, by go_num, Lib.hid (by
          have := hrest.out
          rw [Hd.out, List.all_cons, He.out] at this
          simpa using this)⟩
        case measure => simp [intOf]; omega
      · go_ret
        refine ⟨?_, B1.out⟩
        have := hrest.out
        rw [Hd.out, List.all_cons, He.out] at this
        rw [← this]; rfl
    · have hlast : Hid (r = true) := Lib.hid (by
        have := hrest.out
        rw [List.drop_eq_nil_of_le (by omega)] at this
        rw [← this]; rfl)
      go_wp2
      go_ret
      exact ⟨by rw [hlast.out]; rfl, B1.out⟩
theorem sbufok_any (h : PgH) (L : Pg) (k : BufH) (o : Buf) (w : World) (B : Nat) (hP : PgR w B h L) (hS : BufR w B k o) (hB : B ≤ w.heap.size) (SP : PgS L) (LS : BufS o) (r : Bool) (hr : Hid (bufB L o = r)) :
    Calls Try.prog 86 #[PgV h L, BufV k o] w fun e w' => e = .returned (.bool r) ∧ Below w.heap.size w w' := by
  have LP := PgS_L SP
  have LL := BufS_L LS
  have LS' := StaS_L LS.s
  obtain ⟨W, hW⟩ : ∃ W, W = (w.alloc (.cells #[.slice h.A L.length h.c] 36)).alloc (.cells #[.slice k.h.A0 o.st.f0.length k.h.c0, .slice k.h.A1 o.st.f1.length k.h.c1, .slice k.h.A2 o.st.f2.length k.h.c2, .slice k.h.A3 o.st.f3.length k.h.c3, .slice k.h.A4 o.st.f4.length k.h.c4, .slice k.k.A o.bs.length k.k.c] 59) := ⟨_, rfl⟩
  have bW : Below w.heap.size w W := by rw [hW]; go_grown
  have k0 : Bk W w.heap.size 36 #[.slice h.A L.length h.c] := by rw [hW]; exact (Bk.new w _ _).alloc _
  have k1 : Bk W (w.heap.size + 1) 59 #[.slice k.h.A0 o.st.f0.length k.h.c0, .slice k.h.A1 o.st.f1.length k.h.c1, .slice k.h.A2 o.st.f2.length k.h.c2, .slice k.h.A3 o.st.f3.length k.h.c3, .slice k.h.A4 o.st.f4.length k.h.c4, .slice k.k.A o.bs.length k.k.c] := by
    rw [hW]; have := Bk.new (w.alloc (.cells #[.slice h.A L.length h.c] 36)) #[.slice k.h.A0 o.st.f0.length k.h.c0, .slice k.h.A1 o.st.f1.length k.h.c1, .slice k.h.A2 o.st.f2.length k.h.c2, .slice k.h.A3 o.st.f3.length k.h.c3, .slice k.h.A4 o.st.f4.length k.h.c4, .slice k.k.A o.bs.length k.k.c] 59
    rwa [World.size_alloc] at this
  have P0 := Lib.hid (hP.below bW hB)
  have Q0 := Lib.hid (hS.below bW hB)
  have K0 := Lib.hid k0
  have K1 := Lib.hid k1
  have B0 := Lib.hid bW
  have z0 := bW.size
  have HW := Lib.hid hW
  clear hW bW k0 k1 hP hS
  rcases Bool.eq_false_or_eq_true (stB L o.st) with hst | hst
  rotate_left
  · have hfin : Hid (r = false) := Lib.hid (by rw [← hr.out, bufB, hst]; rfl)
    have HST := Lib.hid hst
    clear hr hst
    go_enter Try.func86, Try.ntmps86
    go_wp2_with fail
    rw [← HW.out]
    refine (sstok_any h L k.h o.st W B P0.out Q0.out.s (by omega) SP LS.s false HST).mono ?_
    rintro e w1 ⟨rfl, hb⟩
    have B1 := Lib.hid (below_on B0.out hb)
    clear hb
    go_wp2
    go_ret
    exact ⟨by rw [hfin.out]; rfl, B1.out⟩
  have HST := Lib.hid hst
  by_cases hl : o.bs.length = L.length
  rotate_left
  · have hfin : Hid (r = false) := Lib.hid (by rw [← hr.out, bufB]; simp [hl])
    have hne : ((o.bs.length : Int) != (L.length : Int)) = true := by simp; omega
    clear hr hst hl
    go_enter Try.func86, Try.ntmps86
    go_wp2_with fail
    rw [← HW.out]
    refine (sstok_any h L k.h o.st W B P0.out Q0.out.s (by omega) SP LS.s true HST).mono ?_
    rintro e w1 ⟨rfl, hb⟩
    have B1 := Lib.hid (below_on B0.out hb)
    have cP : w1.cell? ⟨w.heap.size, 0, none⟩ = some (.slice h.A L.length h.c) := (K0.out.below hb K0.out.lt).cell 0
    have c5 : w1.cell? ⟨w.heap.size + 1, 5, none⟩ = some (.slice k.k.A o.bs.length k.k.c) := (K1.out.below hb K1.out.lt).cell 5
    clear hb
    go_wp2
    go_ret
    exact ⟨by rw [hfin.out]; rfl, B1.out⟩
  have hfin : Hid (o.bs.all lokB = r) := Lib.hid (by rw [← hr.out, bufB, hst]; simp [hl])
  have hne : ((o.bs.length : Int) != (L.length : Int)) = false := by simp [hl]
  clear hr hst hl
  go_enter Try.func86, Try.ntmps86
  go_wp2_with fail
  rw [← HW.out]
  refine (sstok_any h L k.h o.st W B P0.out Q0.out.s (by omega) SP LS.s true HST).mono ?_
  rintro e w1 ⟨rfl, hb⟩
  have B1 := Lib.hid (below_on B0.out hb)
  have Q1 := Lib.hid (Q0.out.below hb (by omega))
  have cP : w1.cell? ⟨w.heap.size, 0, none⟩ = some (.slice h.A L.length h.c) := (K0.out.below hb K0.out.lt).cell 0
  have k1 := K1.out.below hb K1.out.lt
  have K11 := Lib.hid k1
  have c5 : w1.cell? ⟨w.heap.size + 1, 5, none⟩ = some (.slice k.k.A o.bs.length k.k.c) := k1.cell 5
  have z1 := hb.size
  have l1 := k1.lt
  clear hb k1
  obtain ⟨A, c, hA, hc⟩ : ∃ A c, k.k.A = A ∧ k.k.c = c := ⟨_, _, rfl, rfl⟩
  have V1 : Hid (Vss w1 B A (vsIss o.bs)) := Lib.hid (hA ▸ Q1.out.b.v)
  have bl := LL.b.l0
  have HR := Lib.hid LL.b.l1
  unfold maxLen at bl
  rw [hA, hc] at c5
  go_wp2
  go_loop [5] (fun i => ∃ m : Nat, m ≤ o.bs.length ∧ i = .int .i64 m ∧ Hid ((o.bs.drop m).all lokB = r)) (fun i => o.bs.length - (intOf i).toNat)
  case atStart => exact ⟨0, Nat.zero_le _, rfl, by simpa using hfin⟩
  case round =>
    obtain ⟨m, hm, rfl, hrest⟩ := hrel
    clear hfin hne cP
    by_cases hlt : m < o.bs.length
    · obtain ⟨xs, hxs, hd⟩ := drop_at hlt
      obtain ⟨b, off, Ai, ci, rfl, hb, hx0, hrow⟩ := V1.out.at_ (vsIss_at hxs)
      rw [ints_length] at hx0
      have hl := HR.out xs (List.mem_of_getElem? hxs)
      have Hd := Lib.hid hd
      have Hw := Lib.hid hrow
      have hbw : b < w1.heap.size := by omega
      clear hd hxs hrow
      unfold maxLen at hl
      by_cases h2 : xs.length % 2 = 0
      rotate_left
      · have e2 : Int.tmod (xs.length : Int) 2 = 1 := by rw [Int.tmod_eq_emod_of_nonneg (by omega)]; omega
        have hlast : Hid (r = false) := Lib.hid (by rw [← hrest.out, Hd.out, List.all_cons, lokB]; simp [h2])
        clear h2
        go_wp2
        go_ret
        exact ⟨by rw [hlast.out]; rfl, B1.out⟩
      have e2 : Int.tmod (xs.length : Int) 2 = 0 := by rw [Int.tmod_eq_emod_of_nonneg (by omega)]; omega
      by_cases h12 : xs.length ≤ 12
      rotate_left
      · have e12 : (12 : Int) < (xs.length : Int) := by omega
        have hlast : Hid (r = false) := Lib.hid (by rw [← hrest.out, Hd.out, List.all_cons, lokB]; simp [h12])
        clear h2 h12
        go_wp2
        go_ret
        exact ⟨by rw [hlast.out]; rfl, B1.out⟩
      have e12 : ¬ (12 : Int) < (xs.length : Int) := by omega
      have H2 := Lib.hid h2
      have hrow2 : Hid ((prsB (xs.drop (2 * 0)) && (o.bs.drop (m + 1)).all lokB) = r) := Lib.hid (by rw [← hrest.out, Hd.out, List.all_cons, lokB]; simp [h2, h12])
      have hge : Hid (Exists fun n => xs.length = 2 * n) := Lib.hid ⟨xs.length / 2, by omega⟩
      clear h2 hrest
      obtain ⟨wo, rfl⟩ : ∃ wo : World, wo = w1 := ⟨_, rfl⟩
      go_wp2
      go_loop [7] (fun j => ∃ q : Nat, 2 * q ≤ xs.length ∧ j = .int .i64 (2 * q : Nat) ∧ Hid ((prsB (xs.drop (2 * q)) && (o.bs.drop (m + 1)).all lokB) = r)) (fun j => xs.length + 1 - (intOf j).toNat)
      case atStart => exact ⟨0, Nat.zero_le _, rfl, hrow2⟩
      case round =>
        obtain ⟨q, hq, rfl, hrest⟩ := hrel
        clear hrow2 e2 e12 hx0 c5
        by_cases hlq : 2 * q < xs.length
        · have hlq1 : 2 * q + 1 < xs.length := by have := H2.out; omega
          obtain ⟨b1, off1, x, hA1, hb1, hx, -, hx0⟩ := Hw.out.int_ hlq
          obtain ⟨b2, off2, y, hA2, hb2, hy, -, hy0⟩ := Hw.out.int_ hlq1
          subst hA1
          injection hA2 with hA2
          injection hA2 with e1 e3
          subst e1
          subst e3
          have Hp := Lib.hid (prsB_two hx hy)
          have hb1w : b1 < wo.heap.size := by omega
          have hlq' : ((2 * q : Nat) : Int) < (xs.length : Int) := by omega
          have hlq1' : ((2 * q : Nat) : Int) + 1 < (xs.length : Int) := by omega
          clear hx hy
          rcases Bool.eq_false_or_eq_true (inB x 0 2) with he | he
          rotate_left
          · have He := Lib.hid he
            clear he
            have hlast : Hid (r = false) := Lib.hid (by rw [← hrest.out, Hp.out, He.out]; rfl)
            go_wp2_with fail
            refine (l1In_b x 0 2 _ _ He).mono ?_
            rintro e w' ⟨rfl, rfl⟩
            go_wp2
            go_ret
            exact ⟨by rw [hlast.out]; rfl, B1.out⟩
          have He := Lib.hid he
          clear he
          rcases Bool.eq_false_or_eq_true (inB y 0 3) with he | he
          rotate_left
          · have He2 := Lib.hid he
            clear he
            have hlast : Hid (r = false) := Lib.hid (by rw [← hrest.out, Hp.out, He.out, He2.out]; rfl)
            go_wp2_with fail
            refine (l1In_b x 0 2 _ _ He).mono ?_
            rintro e w' ⟨rfl, rfl⟩
            go_wp2_with fail
            refine (l1In_b y 0 3 _ _ He2).mono ?_
            rintro e w' ⟨rfl, rfl⟩
            go_wp2
            go_ret
            exact ⟨by rw [hlast.out]; rfl, B1.out⟩
          have He2 := Lib.hid he
          clear he
          go_wp2_with fail
          refine (l1In_b x 0 2 _ _ He).mono ?_
          rintro e w' ⟨rfl, rfl⟩
          go_wp2_with fail
          refine (l1In_b y 0 3 _ _ He2).mono ?_
          rintro e w' ⟨rfl, rfl⟩
          go_wp2
          go_round
          case rel => exact ⟨q + 1, by omega, by go_num, Lib.hid (by
            have := hrest.out
            rw [Hp.out, He.out, He2.out] at this
            simpa [Nat.mul_add] using this)⟩
          case measure => simp [intOf]; omega
        · have hnext : Hid ((o.bs.drop (m + 1)).all lokB = r) := Lib.hid (by
            have := hrest.out
            rw [List.drop_eq_nil_of_le (by omega)] at this
            simpa [prsB] using this)
          have hge : ¬ ((2 * q : Nat) : Int) < (xs.length : Int) := by omega
          clear hrest
          go_wp2
          go_round
          case rel => exact ⟨m + 1, by omega, by go_num, hnext⟩
          case measure => simp [intOf]; omega
    · have hlast : Hid (r = true) := Lib.hid (by
        have := hrest.out
        rw [List.drop_eq_nil_of_le (by omega)] at this
        rw [← this]; rfl)
      go_wp2
      go_ret
      exact ⟨by rw [hlast.out]; rfl, B1.out⟩
end Go.Proofs.Ytnadihepgmbhaaa
