/-
  Which steps can be done with buffers: plain facts, and what the program's waitsForBuffer, isPutBehind and bufAble come to.
-/
import Derived.Test.YtpcdcgcbhhnhhaaQue
import Derived.Test.YtpcdcgcbhhnhhaaNev
import Derived.Test.YtpcdcgcbhhnhhaaICan
namespace Go.Proofs.Ytpcdcgcbhhnhhaa
open Go.RowKit Pl Go.BigFrame
set_option maxHeartbeats 4000000
set_option maxRecDepth 100000
set_option linter.unusedVariables false

/-- Whether a statement is done with any buffer. -/
def weakB (x : Sm) : Bool := (x.k == 0 || x.k == 10) || ((x.k == 1 || x.k == 2) && !x.s)
/-- Whether a step can be done. -/
def canQ (L : Pg) (f : Nat → Nat) (b : Nat → List Nat) (st : Int) : Bool :=
  if inB st L.length (2 * (L.length : Int) - 1) then !(b (st - L.length).toNat).isEmpty
  else inB st 0 ((L.length : Int) - 1) && (canF L f st.toNat && ((b st.toNat).isEmpty || weakB (smAt L st.toNat (f (3 + st.toNat)))))
theorem weak_strong {x : Sm} (h : x.okb = true) : (!x.s && (x.k == 0 || x.k == 1 || x.k == 2 || x.k == 10)) = weakB x := by
  obtain ⟨k, a, b, c, s⟩ := x
  have h : okB k a b c s = true := h
  unfold weakB
  simp only
  cases s with
  | false => cases (k == 0) <;> cases (k == 1) <;> cases (k == 2) <;> cases (k == 10) <;> rfl
  | true =>
    have : k = 1 ∨ k = 2 := by
      unfold okB at h
      by_cases h1 : k = 1
      · exact Or.inl h1
      · by_cases h2 : k = 2
        · exact Or.inr h2
        · simp [h1, h2] at h
    rcases this with rfl | rfl <;> rfl

theorem waitsb_any (x : Sm) (w : World) (r : Bool) (hr : Hid ((!weakB x) = r)) :
    Calls Try.prog 118 #[x.val] w fun e w' => e = .returned (.bool r) ∧ Below w.heap.size w w' := by
  obtain ⟨k, a, b, c, s⟩ := x
  have hr' := hr.out
  unfold weakB at hr'
  simp only at hr'
  clear hr
  by_cases h0 : k = 0
  · subst h0
    have hfin : Hid (r = false) := Lib.hid (by rw [← hr']; rfl)
    go_enter Try.func118, Try.ntmps118
    go_wp2
    go_ret
    exact ⟨by rw [hfin.out]; rfl, by go_grown⟩
  by_cases h10 : k = 10
  · subst h10
    have hfin : Hid (r = false) := Lib.hid (by rw [← hr']; rfl)
    go_enter Try.func118, Try.ntmps118
    go_wp2
    go_ret
    exact ⟨by rw [hfin.out]; rfl, by go_grown⟩
  have e0 : (k == 0) = false := by rw [beq_eq_false_iff_ne]; exact h0
  have e10 : (k == 10) = false := by rw [beq_eq_false_iff_ne]; exact h10
  by_cases h1 : k = 1
  · subst h1
    have hfin : Hid (s = r) := Lib.hid (by rw [← hr']; cases s <;> rfl)
    clear hr'
    go_enter Try.func118, Try.ntmps118
    go_wp2
    go_ret
    exact ⟨by rw [← hfin.out]; rfl, by go_grown⟩
  by_cases h2 : k = 2
  · subst h2
    have hfin : Hid (s = r) := Lib.hid (by rw [← hr']; cases s <;> rfl)
    clear hr'
    go_enter Try.func118, Try.ntmps118
    go_wp2
    go_ret
    exact ⟨by rw [← hfin.out]; rfl, by go_grown⟩
  have e1 : (k == 1) = false := by rw [beq_eq_false_iff_ne]; exact h1
  have e2 : (k == 2) = false := by rw [beq_eq_false_iff_ne]; exact h2
  have hfin : Hid (r = true) := Lib.hid (by rw [← hr', e0, e1, e2, e10]; rfl)
  clear hr'
  go_enter Try.func118, Try.ntmps118
  go_wp2
  go_ret
  exact ⟨by rw [hfin.out]; rfl, by go_grown⟩
theorem qcell {w : World} {g : Nat} {t : TypeId} {f : Nat → Nat} {b : Nat → List Nat} (h : Bk w g t (Qk f b)) {u : Nat} (hu : u < 3) : w.cell? ⟨g, 1 + u, none⟩ = some (.int .u64 (bwC (b u) : Nat)) :=
  (h.cell (1 + u)).trans (by rcases (show u = 0 ∨ u = 1 ∨ u = 2 by omega) with rfl | rfl | rfl <;> rfl)
theorem bempty {cs : List Nat} (n : Nat) (h : bwC cs = n) : (((n : Int) == 0) = cs.isEmpty) ∧ (((n : Int) != 0) = !cs.isEmpty) := by
  subst h
  cases cs with
  | nil => exact ⟨rfl, rfl⟩
  | cons c r =>
    have : bwC (c :: r) ≠ 0 := fun e => by have := bwC_zero.1 e; cases this
    constructor
    · rw [beq_eq_false_iff_ne.2 (by omega)]; rfl
    · simp; omega
theorem bufable_any (h : PgH) (L : Pg) (f : Nat → Nat) (b : Nat → List Nat) (st : Int) (w : World) (B : Nat) (hP : PgR w B h L) (hB : B ≤ w.heap.size) (hL : progB L = true) (hf : Good L f) (hcan : ∀ t, t < L.length → f (0 + t) = bitN (canF L f t)) (r : Bool) (hr : Hid (canQ L f b st = r)) :
    Calls Try.prog 75 #[PgV h L, QV f b, .int .i64 st] w fun e w' => e = .returned (.bool r) ∧ Below w.heap.size w w' := by
  obtain ⟨h31, h32⟩ := prog_len hL
  obtain ⟨W, hW⟩ : ∃ W, W = (w.alloc (.cells #[.slice h.A L.length h.c] 36)).alloc (.cells #[.int .u64 (enc WS f : Nat), .int .u64 (bwC (b 0) : Nat), .int .u64 (bwC (b 1) : Nat), .int .u64 (bwC (b 2) : Nat)] 74) := ⟨_, rfl⟩
  have bW : Below w.heap.size w W := by rw [hW]; go_grown
  have k0 : Bk W w.heap.size 36 #[.slice h.A L.length h.c] := by rw [hW]; exact (Bk.new w _ _).alloc _
  have k1 : Bk W (w.heap.size + 1) 74 (Qk f b) := by
    rw [hW]; have := Bk.new (w.alloc (.cells #[.slice h.A L.length h.c] 36)) (Qk f b) 74
    rwa [World.size_alloc] at this
  have P0 := Lib.hid (hP.below bW hB)
  have K0 := Lib.hid k0
  have K1 := Lib.hid k1
  have B0 := Lib.hid bW
  have z0 := bW.size
  have HW := Lib.hid hW
  clear hW bW k0 k1 hP
  rcases Bool.eq_false_or_eq_true (inB st L.length (2 * (L.length : Int) - 1)) with hs | hs
  · obtain ⟨u, hu⟩ : ∃ u : Nat, st = (L.length : Int) + u := ⟨(st - L.length).toNat, by simp [inB] at hs; omega⟩
    have hul : u < L.length := by simp [inB] at hs; omega
    have hfin : Hid ((!(b u).isEmpty) = r) := Lib.hid (by rw [← hr.out, canQ, if_pos hs, hu, show ((L.length : Int) + (u : Int) - (L.length : Int)).toNat = u by omega])
    have HS := Lib.hid hs
    have hsub : st - (L.length : Int) = (u : Int) := by omega
    clear hr hs hu
    have cu := qcell K1.out (show u < 3 by omega)
    have lq := K1.out.lt
    obtain ⟨n, hn⟩ : ∃ n, bwC (b u) = n := ⟨_, rfl⟩
    have HE := Lib.hid (bempty n hn)
    rw [hn] at cu
    clear hn
    go_enter Try.func75, Try.ntmps75
    go_wp2_with fail
    rw [← HW.out]
    refine (within_b st L.length _ _ _ HS).mono ?_
    rintro e w' ⟨rfl, rfl⟩
    go_wp2
    go_ret
    exact ⟨by rw [← hfin.out, ← HE.out.2]; rfl, B0.out⟩
  have HS := Lib.hid hs
  have hr1 := hr.out
  rw [canQ, if_neg (by rw [hs]; simp)] at hr1
  clear hr hs
  obtain ⟨va, hva⟩ : ∃ v, (inB st 0 ((L.length : Int) - 1) && (f (0 + st.toNat) == 1)) = v := ⟨_, rfl⟩
  have HV := Lib.hid hva
  have HG := Lib.hid hf
  rcases Bool.eq_false_or_eq_true va with hv | hv
  rotate_left
  · subst hv
    have hfin : Hid (r = false) := Lib.hid (by
      rw [← hr1]
      rcases Bool.eq_false_or_eq_true (inB st 0 ((L.length : Int) - 1)) with h1 | h1
      · have hlt : st.toNat < L.length := by simp [inB] at h1; omega
        rw [h1, Bool.true_and, hcan _ hlt] at hva
        have : canF L f st.toNat = false := by cases hc : canF L f st.toNat with | false => rfl | true => rw [hc] at hva; cases hva
        rw [h1, this]; rfl
      · rw [h1]; rfl)
    clear hr1 hva hf hcan
    go_enter Try.func75, Try.ntmps75
    go_wp2_with fail
    rw [← HW.out]
    refine (within_b st L.length _ _ _ HS).mono ?_
    rintro e w' ⟨rfl, rfl⟩
    have cQ : W.cell? ⟨w.heap.size + 1, 0, none⟩ = some (.int .u64 (enc WS f : Nat)) := K1.out.cell 0
    have cP : W.cell? ⟨w.heap.size, 0, none⟩ = some (.slice h.A L.length h.c) := K0.out.cell 0
    have lQ := K1.out.lt
    have lP := K0.out.lt
    go_wp2_with fail
    refine (able_any h L f st W HG.out.ok h31 h32 false HV).mono ?_
    rintro e w1 ⟨rfl, hb⟩
    have B1 := Lib.hid (below_on B0.out hb)
    clear hb cQ cP
    go_wp2
    go_ret
    exact ⟨by rw [hfin.out]; rfl, B1.out⟩
  subst hv
  have hin : inB st 0 ((L.length : Int) - 1) = true := by simp only [Bool.and_eq_true] at hva; exact hva.1
  obtain ⟨t, rfl⟩ : ∃ t : Nat, st = t := ⟨st.toNat, by simp [inB] at hin; omega⟩
  have htl : t < L.length := by simp [inB] at hin; omega
  rw [hin, Bool.true_and, Int.toNat_natCast] at hr1 hva
  have hcf : canF L f t = true := by
    rw [hcan _ htl] at hva
    cases hc : canF L f t with
    | true => rfl
    | false => rw [hc] at hva; cases hva
  rw [hcf, Bool.true_and] at hr1
  have hti : (t : Int) < (L.length : Int) := by omega
  obtain ⟨n, hn⟩ : ∃ n, bwC (b t) = n := ⟨_, rfl⟩
  have HE := Lib.hid (bempty n hn)
  have HC : Hid (∀ (V : World) (g : Nat), Bk V g 74 (Qk f b) → V.cell? ⟨g, 1 + t, none⟩ = some (.int .u64 (n : Nat))) := Lib.hid (fun V g h => by rw [← hn]; exact qcell h (by omega))
  clear hn hva hin hcan
  rcases Bool.eq_false_or_eq_true ((b t).isEmpty) with he | he
  · have hfin : Hid (r = true) := Lib.hid (by rw [← hr1, he]; rfl)
    have e1 : ((n : Int) == 0) = true := HE.out.1.trans he
    clear hr1 hf he hcf
    go_enter Try.func75, Try.ntmps75
    go_wp2_with fail
    rw [← HW.out]
    refine (within_b (t : Int) L.length _ _ _ HS).mono ?_
    rintro e w' ⟨rfl, rfl⟩
    have cQ : W.cell? ⟨w.heap.size + 1, 0, none⟩ = some (.int .u64 (enc WS f : Nat)) := K1.out.cell 0
    have cP : W.cell? ⟨w.heap.size, 0, none⟩ = some (.slice h.A L.length h.c) := K0.out.cell 0
    have lQ := K1.out.lt
    have lP := K0.out.lt
    go_wp2_with fail
    refine (able_any h L f (t : Int) W HG.out.ok h31 h32 true HV).mono ?_
    rintro e w1 ⟨rfl, hb⟩
    have B1 := Lib.hid (below_on B0.out hb)
    have ct := HC.out _ _ (K1.out.below hb K1.out.lt)
    have lQ1 := (K1.out.below hb K1.out.lt).lt
    clear hb cQ cP
    go_wp2
    go_ret
    exact ⟨by rw [hfin.out]; rfl, B1.out⟩
  · have hml : f (3 + t) < (L.getD t []).length := by
      have hle := hf.at_ t L[t] (List.getElem?_eq_getElem htl)
      have hd : L.getD t [] = L[t] := getD_some (List.getElem?_eq_getElem htl)
      rw [hd]
      unfold canF at hcf
      rw [hd] at hcf
      have : f (3 + t) ≠ L[t].length := by intro e; rw [e] at hcf; simp at hcf
      omega
    rw [he, Bool.false_or] at hr1
    obtain ⟨x, hx⟩ : ∃ x, smAt L t (f (3 + t)) = x := ⟨_, rfl⟩
    rw [hx] at hr1
    have WB := Lib.hid (fun v => waitsb_any x v (!r) (Lib.hid (by rw [hr1])))
    have hev := Lib.hid (fun (V : World) (hP : PgR V B h L) (hB : B ≤ V.heap.size) => nextev_any h L f t V B hP hB hL HG.out htl hml)
    unfold evV at hev
    rw [hx] at hev
    have hfd := ev_stmt (t : Int) (f (3 + t) : Nat) x.k x.a x.b x.c x.s
    have e1 : ((n : Int) == 0) = false := HE.out.1.trans he
    clear hr1 hf he hcf hml hx
    go_enter Try.func75, Try.ntmps75
    go_wp2_with fail
    rw [← HW.out]
    refine (within_b (t : Int) L.length _ _ _ HS).mono ?_
    rintro e w' ⟨rfl, rfl⟩
    have cQ : W.cell? ⟨w.heap.size + 1, 0, none⟩ = some (.int .u64 (enc WS f : Nat)) := K1.out.cell 0
    have cP : W.cell? ⟨w.heap.size, 0, none⟩ = some (.slice h.A L.length h.c) := K0.out.cell 0
    have lQ := K1.out.lt
    have lP := K0.out.lt
    go_wp2_with fail
    refine (able_any h L f (t : Int) W HG.out.ok h31 h32 true HV).mono ?_
    rintro e w1 ⟨rfl, hb⟩
    have B1 := Lib.hid (below_on B0.out hb)
    have k11 := K1.out.below hb K1.out.lt
    have ct := HC.out _ _ k11
    have cQ1 : w1.cell? ⟨w.heap.size + 1, 0, none⟩ = some (.int .u64 (enc WS f : Nat)) := k11.cell 0
    have cP1 : w1.cell? ⟨w.heap.size, 0, none⟩ = some (.slice h.A L.length h.c) := (K0.out.below hb K0.out.lt).cell 0
    have P1 := Lib.hid (P0.out.below hb (by omega))
    have z1 := hb.size
    have lQ1 := k11.lt
    have lP1 : w.heap.size < w1.heap.size := by omega
    clear hb cQ cP k11
    go_wp2_with fail
    refine (hev.out w1 P1.out (by omega)).mono ?_
    rintro e w2 ⟨rfl, hb2⟩
    have B2 := Lib.hid (below_on B1.out hb2)
    clear hb2 ct cQ1 cP1
    go_wp2_with fail
    refine (WB.out w2).mono ?_
    rintro e w3 ⟨rfl, hb3⟩
    have B3 := Lib.hid (below_on B2.out hb3)
    clear hb3 hfd
    go_wp2
    go_ret
    exact ⟨by simp, B3.out⟩
end Go.Proofs.Ytpcdcgcbhhnhhaa
