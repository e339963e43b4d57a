/-
  What the program's nextAt and stepped come to.
-/
import Derived.Test.YtmnpndmjheippaaStep
import Derived.Deep.DeepCutAuto
namespace Go.Proofs.Ytmnpndmjheippaa
open Go.RowKit Pl Go.BigFrame
set_option maxHeartbeats 4000000
set_option maxRecDepth 100000
set_option linter.unusedVariables false

/-- Where a thread is behind a statement. -/
def nextF (L : Pg) (f : Nat → Nat) (t : Nat) (x : Sm) : Nat :=
  if x.k = 10 then (if f (6 + (t * 3 + x.a.toNat)) = 0 then min (f (3 + t) + 1 + x.b.toNat) (L.getD t []).length else f (3 + t) + 1) else f (3 + t) + 1
theorem ok_skip {k a b c : Int} {s : Bool} (h : okB k a b c s = true) (hk : k = 10) : ∃ n : Nat, 1 ≤ n ∧ n ≤ 6 ∧ b = (n : Int) := by
  have : 1 ≤ b ∧ b ≤ 6 := by subst hk; (cases s <;> simp [okB, inB] at h <;> omega)
  exact ⟨b.toNat, by omega, by omega, by omega⟩

theorem nextat_any (h : PgH) (L : Pg) (f : Nat → Nat) (t : Nat) (x : Sm) (w : World) (B : Nat) (hP : PgR w B h L) (hB : B ≤ w.heap.size) (hL : progB L = true) (hf : Good L f) (ht : t < L.length) (hlt : f (3 + t) < (L.getD t []).length) (hx : x.okb = true) (r : Nat) (hr : Hid (nextF L f t x = r)) :
    Calls Try.prog 125 #[PgV h L, .int .u64 (enc WS f : Nat), .int .i64 t, x.val] w fun e w' => e = .returned (.int .i64 r) ∧ Below w.heap.size w w' := by
  obtain ⟨h31, h32⟩ := prog_len hL
  obtain ⟨A, c0⟩ := h
  obtain ⟨k, a, b, c, s⟩ := x
  obtain ⟨pb, po, xs, Ai, ci, hA0, hpb, hxs, hc, -, hmi, -⟩ := pg_at hP ht
  simp only at hA0
  subst hA0
  have ht3 : t < 3 := by omega
  rw [getD_some hxs] at hlt
  obtain ⟨m, hm⟩ : ∃ m, f (3 + t) = m := ⟨_, rfl⟩
  have hxl := (prog_thr hL hxs).1
  rw [hm] at hlt
  unfold maxLen at hmi
  obtain ⟨W, hW⟩ : ∃ W, W = (w.alloc (.cells #[.slice (some ⟨pb, po, none⟩) L.length c0] 35)).alloc (.cells #[.int .i64 k, .int .i64 a, .int .i64 b, .int .i64 c, .bool s] 67) := ⟨_, rfl⟩
  have bW : Below w.heap.size w W := by rw [hW]; go_grown
  have k0 : Bk W w.heap.size 35 #[.slice (some ⟨pb, po, none⟩) L.length c0] := by rw [hW]; exact (Bk.new w _ _).alloc _
  have k1 : Bk W (w.heap.size + 1) 67 #[.int .i64 k, .int .i64 a, .int .i64 b, .int .i64 c, .bool s] := by
    rw [hW]; have := Bk.new (w.alloc (.cells #[.slice (some ⟨pb, po, none⟩) L.length c0] 35)) #[.int .i64 k, .int .i64 a, .int .i64 b, .int .i64 c, .bool s] 67
    rwa [World.size_alloc] at this
  have HE : Hid ((f (3 + t) : Int) + fL 0 = (m : Int)) := Lib.hid (by rw [hm]; simp [fL])
  have EN := Lib.hid (entF fld0 hf.ok t (show t < 3 by omega) W _ HE)
  have hpw : pb < w.heap.size := by omega
  have hcW : W.cell? ⟨pb, po + t, none⟩ = some (.slice Ai xs.length ci) := (bW.cell (p := ⟨pb, po + t, none⟩) hpw).trans hc
  have K0 := Lib.hid k0
  have K1 := Lib.hid k1
  have BW := Lib.hid bW
  have lW := bW.size
  have HW := Lib.hid hW
  have HF := Lib.hid hf
  have hti : (t : Int) < (L.length : Int) := by omega
  have hr' := hr.out
  unfold nextF at hr'
  rw [hm, getD_some hxs] at hr'
  simp only at hr'
  clear hr hW bW k0 k1 hP hc hxs hm hf
  by_cases hk : k = 10
  rotate_left
  · rw [if_neg hk] at hr'
    have hk' : (k == 10) = false := by simp [hk]
    have hfin := Lib.hid hr'
    clear hk hr' hx
    go_enter Try.func125, Try.ntmps125
    go_wp2_with fail
    rw [← HW.out]
    refine EN.out.mono ?_
    rintro e w1 ⟨rfl, hb⟩
    have kp := K0.out.below hb K0.out.lt
    have kx := K1.out.below hb K1.out.lt
    have B1 := Lib.hid (below_on BW.out hb)
    have cp : w1.cell? ⟨w.heap.size, 0, none⟩ = some (.slice (some ⟨pb, po, none⟩) L.length c0) := kp.cell 0
    have hcw : w1.cell? ⟨pb, po + t, none⟩ = some (.slice Ai xs.length ci) := (hb.cell (p := ⟨pb, po + t, none⟩) (by show pb < W.heap.size; omega)).trans hcW
    have cx0 : w1.cell? ⟨w.heap.size + 1, 0, none⟩ = some (.int .i64 k) := kx.cell 0
    have cx1 : w1.cell? ⟨w.heap.size + 1, 1, none⟩ = some (.int .i64 a) := kx.cell 1
    have cx2 : w1.cell? ⟨w.heap.size + 1, 2, none⟩ = some (.int .i64 b) := kx.cell 2
    have cx3 : w1.cell? ⟨w.heap.size + 1, 3, none⟩ = some (.int .i64 c) := kx.cell 3
    have cx4 : w1.cell? ⟨w.heap.size + 1, 4, none⟩ = some (.bool s) := kx.cell 4
    have z1 := hb.size
    have lx := kx.lt
    have lp := kp.lt
    clear hb kp kx hcW
    go_wp2
    go_ret
    exact ⟨by rw [← hfin.out]; go_num, B1.out⟩
  subst hk
  rw [if_pos rfl] at hr'
  obtain ⟨n, hn, rfl⟩ := ok_a3 (k := 10) hx (by omega)
  obtain ⟨q, hq1, hq6, rfl⟩ := ok_skip hx rfl
  rw [Int.toNat_natCast, Int.toNat_natCast] at hr'
  obtain ⟨v, hv⟩ : ∃ v, f (6 + (t * 3 + n)) = v := ⟨_, rfl⟩
  rw [hv] at hr'
  have HV := Lib.hid hv
  have RG := Lib.hid (fun W' => reg_any f t n W' HF.out.ok ht3 hn v HV)
  clear hv hx
  by_cases h0 : v = 0
  rotate_left
  · rw [if_neg h0] at hr'
    have h0' : ((v : Int) == 0) = false := by simp [h0]
    have hfin := Lib.hid hr'
    clear h0 hr'
    go_enter Try.func125, Try.ntmps125
    go_wp2_with fail
    rw [← HW.out]
    refine EN.out.mono ?_
    rintro e w1 ⟨rfl, hb⟩
    have kp := K0.out.below hb K0.out.lt
    have kx := K1.out.below hb K1.out.lt
    have B1 := Lib.hid (below_on BW.out hb)
    have cp : w1.cell? ⟨w.heap.size, 0, none⟩ = some (.slice (some ⟨pb, po, none⟩) L.length c0) := kp.cell 0
    have hcw : w1.cell? ⟨pb, po + t, none⟩ = some (.slice Ai xs.length ci) := (hb.cell (p := ⟨pb, po + t, none⟩) (by show pb < W.heap.size; omega)).trans hcW
    have cx0 : w1.cell? ⟨w.heap.size + 1, 0, none⟩ = some (.int .i64 10) := kx.cell 0
    have cx1 : w1.cell? ⟨w.heap.size + 1, 1, none⟩ = some (.int .i64 n) := kx.cell 1
    have cx2 : w1.cell? ⟨w.heap.size + 1, 2, none⟩ = some (.int .i64 q) := kx.cell 2
    have cx3 : w1.cell? ⟨w.heap.size + 1, 3, none⟩ = some (.int .i64 c) := kx.cell 3
    have cx4 : w1.cell? ⟨w.heap.size + 1, 4, none⟩ = some (.bool s) := kx.cell 4
    have z1 := hb.size
    have lx := kx.lt
    have lp := kp.lt
    clear hb kp kx hcW
    go_wp2_with fail
    refine (RG.out _).mono ?_
    rintro e w2 ⟨rfl, hb⟩
    have cp2 := (hb.cell (p := ⟨w.heap.size, 0, none⟩) lp).trans cp
    have hc2 := (hb.cell (p := ⟨pb, po + t, none⟩) (by show pb < w1.heap.size; omega)).trans hcw
    have cx2b := (hb.cell (p := ⟨w.heap.size + 1, 2, none⟩) lx).trans cx2
    have B2 := Lib.hid (below_on B1.out hb)
    clear hb cp hcw cx0 cx1 cx2 cx3 cx4
    go_wp2
    go_ret
    exact ⟨by rw [← hfin.out]; go_num, B2.out⟩
  subst h0
  rw [if_pos rfl] at hr'
  have s1 : IntKind.i64.wrap ((m : Int) + 1) = (m : Int) + 1 := wrap64_small (by omega) (by omega)
  have s2 : IntKind.i64.wrap ((m : Int) + 1 + (q : Int)) = (m : Int) + 1 + (q : Int) := wrap64_small (by omega) (by omega)
  by_cases hle : m + 1 + q ≤ xs.length
  · have hfin : Hid (m + 1 + q = r) := Lib.hid (by rw [← hr']; omega)
    have hcmp : (m : Int) + 1 + (q : Int) ≤ (xs.length : Int) := by omega
    clear hr' hle
    go_enter Try.func125, Try.ntmps125
    go_wp2_with fail
    rw [← HW.out]
    refine EN.out.mono ?_
    rintro e w1 ⟨rfl, hb⟩
    have kp := K0.out.below hb K0.out.lt
    have kx := K1.out.below hb K1.out.lt
    have B1 := Lib.hid (below_on BW.out hb)
    have cp : w1.cell? ⟨w.heap.size, 0, none⟩ = some (.slice (some ⟨pb, po, none⟩) L.length c0) := kp.cell 0
    have hcw : w1.cell? ⟨pb, po + t, none⟩ = some (.slice Ai xs.length ci) := (hb.cell (p := ⟨pb, po + t, none⟩) (by show pb < W.heap.size; omega)).trans hcW
    have cx0 : w1.cell? ⟨w.heap.size + 1, 0, none⟩ = some (.int .i64 10) := kx.cell 0
    have cx1 : w1.cell? ⟨w.heap.size + 1, 1, none⟩ = some (.int .i64 n) := kx.cell 1
    have cx2 : w1.cell? ⟨w.heap.size + 1, 2, none⟩ = some (.int .i64 q) := kx.cell 2
    have cx3 : w1.cell? ⟨w.heap.size + 1, 3, none⟩ = some (.int .i64 c) := kx.cell 3
    have cx4 : w1.cell? ⟨w.heap.size + 1, 4, none⟩ = some (.bool s) := kx.cell 4
    have z1 := hb.size
    have lx := kx.lt
    have lp := kp.lt
    clear hb kp kx hcW
    go_wp2_with fail
    refine (RG.out _).mono ?_
    rintro e w2 ⟨rfl, hb⟩
    have cp2 := (hb.cell (p := ⟨w.heap.size, 0, none⟩) lp).trans cp
    have hc2 := (hb.cell (p := ⟨pb, po + t, none⟩) (by show pb < w1.heap.size; omega)).trans hcw
    have cx2b := (hb.cell (p := ⟨w.heap.size + 1, 2, none⟩) lx).trans cx2
    have B2 := Lib.hid (below_on B1.out hb)
    clear hb cp hcw cx0 cx1 cx2 cx3 cx4
    go_wp2
    go_quiet (fail)
    go_wp2
    go_ret
    refine ⟨?_, below_drewN B2.out _⟩
    rw [← hfin.out]
    simp
    try omega
  · have hfin : Hid (xs.length = r) := Lib.hid (by rw [← hr']; omega)
    have hcmp : ¬ (m : Int) + 1 + (q : Int) ≤ (xs.length : Int) := by omega
    clear hr' hle
    go_enter Try.func125, Try.ntmps125
    go_wp2_with fail
    rw [← HW.out]
    refine EN.out.mono ?_
    rintro e w1 ⟨rfl, hb⟩
    have kp := K0.out.below hb K0.out.lt
    have kx := K1.out.below hb K1.out.lt
    have B1 := Lib.hid (below_on BW.out hb)
    have cp : w1.cell? ⟨w.heap.size, 0, none⟩ = some (.slice (some ⟨pb, po, none⟩) L.length c0) := kp.cell 0
    have hcw : w1.cell? ⟨pb, po + t, none⟩ = some (.slice Ai xs.length ci) := (hb.cell (p := ⟨pb, po + t, none⟩) (by show pb < W.heap.size; omega)).trans hcW
    have cx0 : w1.cell? ⟨w.heap.size + 1, 0, none⟩ = some (.int .i64 10) := kx.cell 0
    have cx1 : w1.cell? ⟨w.heap.size + 1, 1, none⟩ = some (.int .i64 n) := kx.cell 1
    have cx2 : w1.cell? ⟨w.heap.size + 1, 2, none⟩ = some (.int .i64 q) := kx.cell 2
    have cx3 : w1.cell? ⟨w.heap.size + 1, 3, none⟩ = some (.int .i64 c) := kx.cell 3
    have cx4 : w1.cell? ⟨w.heap.size + 1, 4, none⟩ = some (.bool s) := kx.cell 4
    have z1 := hb.size
    have lx := kx.lt
    have lp := kp.lt
    clear hb kp kx hcW
    go_wp2_with fail
    refine (RG.out _).mono ?_
    rintro e w2 ⟨rfl, hb⟩
    have cp2 := (hb.cell (p := ⟨w.heap.size, 0, none⟩) lp).trans cp
    have hc2 := (hb.cell (p := ⟨pb, po + t, none⟩) (by show pb < w1.heap.size; omega)).trans hcw
    have cx2b := (hb.cell (p := ⟨w.heap.size + 1, 2, none⟩) lx).trans cx2
    have B2 := Lib.hid (below_on B1.out hb)
    clear hb cp hcw cx0 cx1 cx2 cx3 cx4
    go_wp2
    go_quiet (fail)
    go_wp2
    go_ret
    refine ⟨?_, below_drewN B2.out _⟩
    rw [← hfin.out]
    simp
    try omega

/-- The word behind the next statement of a thread. -/
def stepF (L : Pg) (f : Nat → Nat) (t : Nat) : Nat → Nat := keptF L (affF (upd f (3 + t) (nextF L f t (smAt L t (f (3 + t))))) t (smAt L t (f (3 + t)))) L.length
theorem affF_lo {f : Nat → Nat} {t : Nat} {x : Sm} {p : Nat} (hp : p < 6) : affF f t x p = f p := by
  unfold affF
  repeat' split
  all_goals (simp only [upd]; repeat' split)
  all_goals omega
theorem nextF_le {L : Pg} {f : Nat → Nat} {t : Nat} {x : Sm} (h : f (3 + t) < (L.getD t []).length) : nextF L f t x ≤ (L.getD t []).length := by
  unfold nextF
  repeat' split
  all_goals omega
theorem affF_ok {f : Nat → Nat} {t : Nat} {x : Sm} (hf : okF WS f) (ht : t < 3) (hx : x.okb = true) (h1 : x.k = 9 → ∀ n : Nat, x.b = (n : Int) → 1 ≤ f (20 + n) ∧ f (20 + n) ≤ 4) : okF WS (affF f t x) := by
  obtain ⟨k, a, b, c, s⟩ := x
  have hx' : okB k a b c s = true := hx
  have R : ∀ (g : Nat → Nat) (n v : Nat), okF WS g → n < 3 → v < 4 → okF WS (upd g (6 + (t * 3 + n)) v) := fun g n v hg hn hv => okF_upd fld1 hg (i := t * 3 + n) (show t * 3 + n < 9 by omega) (show v < 4 by omega)
  have M : ∀ (g : Nat → Nat) (n v : Nat), okF WS g → n < 3 → v < 4 → okF WS (upd g (15 + n) v) := fun g n v hg hn hv => okF_upd fld2 hg (i := n) hn (show v < 4 by omega)
  have O : ∀ (g : Nat → Nat) (n v : Nat), okF WS g → n < 2 → v < 4 → okF WS (upd g (18 + n) v) := fun g n v hg hn hv => okF_upd fld3 hg (i := n) hn (show v < 4 by omega)
  have C : ∀ (g : Nat → Nat) (n v : Nat), okF WS g → n < 2 → v < 8 → okF WS (upd g (20 + n) v) := fun g n v hg hn hv => okF_upd fld4 hg (i := n) hn (show v < 8 by omega)
  unfold affF
  simp only
  by_cases h0 : k = 0
  · rw [if_pos h0]; obtain ⟨n, hn, rfl⟩ := ok_a3 hx' (by omega); exact R _ _ _ hf hn (sumF_lt (ok_sum hx' (by omega)))
  rw [if_neg h0]
  by_cases h1' : k = 1
  · rw [if_pos h1']; obtain ⟨n, hn, rfl⟩ := ok_a3 hx' (by omega); obtain ⟨m, hm, rfl⟩ := ok_b3 hx' (by omega); exact R _ _ _ hf hn (mem_lt hf hm)
  rw [if_neg h1']
  by_cases h2 : k = 2
  · rw [if_pos h2]; obtain ⟨n, hn, rfl⟩ := ok_a3 hx' (by omega); exact M _ _ _ hf hn (sumF_lt (ok_sum hx' (by omega)))
  rw [if_neg h2]
  by_cases h3 : k = 3
  · rw [if_pos h3]; obtain ⟨n, hn, rfl⟩ := ok_a3 hx' (by omega); obtain ⟨m, hm, rfl⟩ := ok_b3 hx' (by omega); obtain ⟨q, hq, rfl⟩ := ok_c4 hx' (by omega); exact M _ _ _ (R _ _ _ hf hn (mem_lt hf hm)) hm hq
  rw [if_neg h3]
  by_cases h4 : k = 4
  · rw [if_pos h4]; obtain ⟨n, hn, rfl⟩ := ok_a3 hx' (by omega); obtain ⟨m, hm, rfl⟩ := ok_b3 hx' (by omega); exact M _ _ _ (R _ _ _ hf hn (mem_lt hf hm)) hm (Nat.mod_lt _ (by omega))
  rw [if_neg h4]
  by_cases h6 : k = 6
  · rw [if_pos h6]; obtain ⟨n, hn, rfl⟩ := ok_ab2 hx' (by omega); exact O _ _ _ hf hn (by omega)
  rw [if_neg h6]
  by_cases h7 : k = 7
  · rw [if_pos h7]; obtain ⟨n, hn, rfl⟩ := ok_ab2 hx' (by omega); exact O _ _ _ hf hn (by omega)
  rw [if_neg h7]
  by_cases h8 : k = 8
  · rw [if_pos h8]; obtain ⟨n, hn, rfl⟩ := ok_ab2 hx' (by omega); have := sumF_lt (f := f) (t := t) (ok_sum hx' (by omega)); exact C _ _ _ hf hn (by omega)
  rw [if_neg h8]
  by_cases h9 : k = 9
  · rw [if_pos h9]; obtain ⟨n, hn, rfl⟩ := ok_a3 hx' (by omega); obtain ⟨m, hm, rfl⟩ := ok_b2 hx' h9; have := h1 h9 m rfl; simp only [Int.toNat_natCast]; exact C _ _ _ (R _ _ _ hf hn (by omega)) hm (by omega)
  rw [if_neg h9]
  exact hf

end Go.Proofs.Ytmnpndmjheippaa
