/-
  The word of a state: what the program's packed, able and Can come to.
-/
import Derived.Test.YtaghidaamcnpkabBegin
import Derived.Test.YtaghidaamcnpkabStOk
namespace Go.Proofs.Ytaghidaamcnpkab
open Go.RowKit Pl
set_option maxHeartbeats 4000000
set_option maxRecDepth 100000
set_option linter.unusedVariables false

def natL (xs : List Int) (l : Int) : List Nat := xs.map fun x => (x - l).toNat
theorem natL_length (xs : List Int) (l : Int) : (natL xs l).length = xs.length := by simp [natL]
theorem natL_at {xs : List Int} {l : Int} {k v : Nat} (h : (natL xs l)[k]? = some v) : ∃ x, xs[k]? = some x ∧ v = (x - l).toNat := by
  simp only [natL, List.getElem?_map] at h
  cases hx : xs[k]? with
  | none => rw [hx] at h; cases h
  | some x => rw [hx] at h; injection h with h; exact ⟨x, rfl, h.symm⟩
theorem natL_getD (xs : List Int) (l : Int) (k : Nat) (h : k < xs.length) : (natL xs l).getD k 0 = (xs.getD k 0 - l).toNat := by
  simp [natL, List.getD, h]
/-- The numbers of a state's word but for which threads can go on. -/
def pkF (s : Sta) : Nat → Nat := updL (updL (updL (updL (updL zeroF 3 (natL s.f0 (fL 0))) 6 (natL s.f1 (fL 1))) 15 (natL s.f2 (fL 2))) 18 (natL s.f3 (fL 3))) 20 (natL s.f4 (fL 4))
theorem allIn_at {xs : List Int} {lo hi : Int} (h : allIn xs lo hi = true) {k : Nat} {x : Int} (hx : xs[k]? = some x) : lo ≤ x ∧ x ≤ hi := by
  have := List.all_eq_true.1 h x (List.mem_of_getElem? hx)
  simpa [inB] using this
theorem atZ_at {L : List (List Sm)} : ∀ {r : List Int}, atZ L r = true → ∀ {k : Nat} {xs : List Sm}, L[k]? = some xs → ∃ x, r[k]? = some x ∧ 0 ≤ x ∧ x ≤ (xs.length : Int) := by
  induction L with
  | nil => intro r _ k xs h; simp at h
  | cons y L ih =>
    intro r h k xs hk
    cases r with
    | nil => simp [atZ] at h
    | cons n r =>
      simp only [atZ, Bool.and_eq_true] at h
      cases k with
      | zero =>
        simp at hk; subst hk
        have := h.1
        simp [inB] at this
        exact ⟨n, rfl, this.1, this.2⟩
      | succ k => simpa using ih h.2 (by simpa using hk)
/-- A state of a program, in parts. -/
structure StP (L : Pg) (s : Sta) : Prop where
  prog : progB L = true
  n1 : 1 ≤ L.length
  n3 : L.length ≤ 3
  at_ : atZ L s.f0 = true
  m0 : s.f0.length = L.length
  m1 : s.f1.length = L.length * 3
  m2 : s.f2.length = 3
  m3 : s.f3.length = 2
  m4 : s.f4.length = 2
  v0 : ∀ (k : Nat) (x : Int), s.f0[k]? = some x → 0 ≤ x ∧ x ≤ 6
  v1 : ∀ (k : Nat) (x : Int), s.f1[k]? = some x → 0 ≤ x ∧ x ≤ 3
  v2 : ∀ (k : Nat) (x : Int), s.f2[k]? = some x → 0 ≤ x ∧ x ≤ 3
  v3 : ∀ (k : Nat) (x : Int), s.f3[k]? = some x → -1 ≤ x ∧ x ≤ (L.length : Int) - 1
  v4 : ∀ (k : Nat) (x : Int), s.f4[k]? = some x → -1 ≤ x ∧ x ≤ 3
theorem stB_parts {L : Pg} {s : Sta} (h : stB L s = true) : StP L s := by
  simp only [stB, numB, Bool.and_eq_true, beq_iff_eq] at h
  obtain ⟨⟨⟨⟨⟨hp, ha⟩, h1, g1⟩, h2, g2⟩, h3, g3⟩, h4, g4⟩ := h
  obtain ⟨n1, n3⟩ := prog_len hp
  have m0 := atZ_len ha
  refine ⟨hp, n1, n3, ha, m0, by omega, by omega, by omega, by omega, fun k x hx => ?_, fun k x hx => allIn_at g1 hx, fun k x hx => allIn_at g2 hx, fun k x hx => allIn_at g3 hx, fun k x hx => allIn_at g4 hx⟩
  have hk : k < L.length := by have := (List.getElem?_eq_some_iff.1 hx).1; omega
  obtain ⟨y, hy, h5, h6⟩ := atZ_at ha (List.getElem?_eq_getElem hk)
  rw [hx] at hy; injection hy with hy; subst hy
  have := (prog_thr hp (List.getElem?_eq_getElem hk)).1
  omega
section
variable {L : Pg} {s : Sta}
theorem pk_at (P : StP L s) {t : Nat} (ht : t < L.length) : pkF s (3 + t) = (s.f0.getD t 0).toNat := by
  have := P.m0; have := P.n3; have := P.m1; have := P.m2; have := P.m3; have := P.m4
  unfold pkF
  rw [updL_at, if_neg (by rw [natL_length]; omega), updL_at, if_neg (by rw [natL_length]; omega), updL_at, if_neg (by rw [natL_length]; omega), updL_at, if_neg (by rw [natL_length]; omega), updL_at, if_pos (by rw [natL_length]; omega), show 3 + t - 3 = t by omega, natL_getD _ _ _ (by omega)]
  simp [fL]
theorem pk_reg (P : StP L s) {i : Nat} (hi : i < L.length * 3) : pkF s (6 + i) = (s.f1.getD i 0).toNat := by
  have := P.m0; have := P.n3; have := P.m1; have := P.m2; have := P.m3; have := P.m4
  unfold pkF
  rw [updL_at, if_neg (by rw [natL_length]; omega), updL_at, if_neg (by rw [natL_length]; omega), updL_at, if_neg (by rw [natL_length]; omega), updL_at, if_pos (by rw [natL_length]; omega), show 6 + i - 6 = i by omega, natL_getD _ _ _ (by omega)]
  simp [fL]
theorem pk_mem (P : StP L s) {i : Nat} (hi : i < 3) : pkF s (15 + i) = (s.f2.getD i 0).toNat := by
  have := P.m0; have := P.n3; have := P.m1; have := P.m2; have := P.m3; have := P.m4
  unfold pkF
  rw [updL_at, if_neg (by rw [natL_length]; omega), updL_at, if_neg (by rw [natL_length]; omega), updL_at, if_pos (by rw [natL_length]; omega), show 15 + i - 15 = i by omega, natL_getD _ _ _ (by omega)]
  simp [fL]
theorem pk_own (P : StP L s) {i : Nat} (hi : i < 2) : pkF s (18 + i) = (s.f3.getD i 0 + 1).toNat := by
  have := P.m0; have := P.n3; have := P.m1; have := P.m2; have := P.m3; have := P.m4
  unfold pkF
  rw [updL_at, if_neg (by rw [natL_length]; omega), updL_at, if_pos (by rw [natL_length]; omega), show 18 + i - 18 = i by omega, natL_getD _ _ _ (by omega)]
  simp [fL]
theorem pk_chan (P : StP L s) {i : Nat} (hi : i < 2) : pkF s (20 + i) = (s.f4.getD i 0 + 1).toNat := by
  have := P.m0; have := P.n3; have := P.m1; have := P.m2; have := P.m3; have := P.m4
  unfold pkF
  rw [updL_at, if_pos (by rw [natL_length]; omega), show 20 + i - 20 = i by omega, natL_getD _ _ _ (by omega)]
  simp [fL]
theorem nat_small {xs : List Int} {l : Int} {m : Nat} (h : ∀ (k : Nat) (x : Int), xs[k]? = some x → l ≤ x ∧ x < l + (m : Int)) : ∀ v ∈ natL xs l, v < m := by
  intro v hv
  obtain ⟨k, hk, hkv⟩ := List.getElem_of_mem hv
  have h1 : (natL xs l)[k]? = some v := by rw [List.getElem?_eq_getElem hk, hkv]
  obtain ⟨x, hx, rfl⟩ := natL_at h1
  have := h k x hx
  omega
theorem nat_back {xs : List Int} {l : Int} (h : ∀ (k : Nat) (x : Int), xs[k]? = some x → l ≤ x) : ∀ (k v : Nat), (natL xs l)[k]? = some v → xs[k]? = some ((v : Int) + l) := by
  intro k v hk
  obtain ⟨x, hx, rfl⟩ := natL_at hk
  have := h k x hx
  rw [hx]; congr 1; omega
theorem sm0 (P : StP L s) : ∀ v ∈ natL s.f0 (fL 0), v < 2 ^ fB 0 := nat_small (l := 0) (m := 8) fun k x hx => by have := P.v0 k x hx; omega
theorem sm1 (P : StP L s) : ∀ v ∈ natL s.f1 (fL 1), v < 2 ^ fB 1 := nat_small (l := 0) (m := 4) fun k x hx => by have := P.v1 k x hx; omega
theorem sm2 (P : StP L s) : ∀ v ∈ natL s.f2 (fL 2), v < 2 ^ fB 2 := nat_small (l := 0) (m := 4) fun k x hx => by have := P.v2 k x hx; omega
theorem sm3 (P : StP L s) : ∀ v ∈ natL s.f3 (fL 3), v < 2 ^ fB 3 := nat_small (l := -1) (m := 4) fun k x hx => by have := P.v3 k x hx; have := P.n3; omega
theorem sm4 (P : StP L s) : ∀ v ∈ natL s.f4 (fL 4), v < 2 ^ fB 4 := nat_small (l := -1) (m := 8) fun k x hx => by have := P.v4 k x hx; omega
theorem bk0 (P : StP L s) : ∀ (k v : Nat), (natL s.f0 (fL 0))[k]? = some v → s.f0[k]? = some ((v : Int) + fL 0) := nat_back (l := 0) fun k x hx => (P.v0 k x hx).1
theorem bk1 (P : StP L s) : ∀ (k v : Nat), (natL s.f1 (fL 1))[k]? = some v → s.f1[k]? = some ((v : Int) + fL 1) := nat_back (l := 0) fun k x hx => (P.v1 k x hx).1
theorem bk2 (P : StP L s) : ∀ (k v : Nat), (natL s.f2 (fL 2))[k]? = some v → s.f2[k]? = some ((v : Int) + fL 2) := nat_back (l := 0) fun k x hx => (P.v2 k x hx).1
theorem bk3 (P : StP L s) : ∀ (k v : Nat), (natL s.f3 (fL 3))[k]? = some v → s.f3[k]? = some ((v : Int) + fL 3) := nat_back (l := -1) fun k x hx => (P.v3 k x hx).1
theorem bk4 (P : StP L s) : ∀ (k v : Nat), (natL s.f4 (fL 4))[k]? = some v → s.f4[k]? = some ((v : Int) + fL 4) := nat_back (l := -1) fun k x hx => (P.v4 k x hx).1
/-- The words on the way. -/
def pk1 (s : Sta) : Nat → Nat := updL zeroF 3 (natL s.f0 (fL 0))
def pk2 (s : Sta) : Nat → Nat := updL (pk1 s) 6 (natL s.f1 (fL 1))
def pk3 (s : Sta) : Nat → Nat := updL (pk2 s) 15 (natL s.f2 (fL 2))
def pk4 (s : Sta) : Nat → Nat := updL (pk3 s) 18 (natL s.f3 (fL 3))
theorem ok1 (P : StP L s) : okF WS (pk1 s) := okF_updL fld0 _ _ 0 zeroF_ok (by rw [natL_length]; have := P.m0; have := P.n3; show 0 + _ ≤ 3; omega) (sm0 P)
theorem ok2 (P : StP L s) : okF WS (pk2 s) := okF_updL fld1 _ _ 0 (ok1 P) (by rw [natL_length]; have := P.m1; have := P.n3; show 0 + _ ≤ 9; omega) (sm1 P)
theorem ok3 (P : StP L s) : okF WS (pk3 s) := okF_updL fld2 _ _ 0 (ok2 P) (by rw [natL_length]; have := P.m2; show 0 + _ ≤ 3; omega) (sm2 P)
theorem ok4 (P : StP L s) : okF WS (pk4 s) := okF_updL fld3 _ _ 0 (ok3 P) (by rw [natL_length]; have := P.m3; show 0 + _ ≤ 2; omega) (sm3 P)
theorem okP (P : StP L s) : okF WS (pkF s) := okF_updL fld4 _ _ 0 (ok4 P) (by rw [natL_length]; have := P.m4; show 0 + _ ≤ 2; omega) (sm4 P)
theorem goodP (P : StP L s) : Good L (pkF s) := ⟨okP P, fun t xs hx => by
  have ht := (List.getElem?_eq_some_iff.1 hx).1
  rw [pk_at P ht]
  obtain ⟨x, h1, h2, h3⟩ := atZ_at P.at_ hx
  rw [getD_some h1]; omega⟩
end
/-- The word of a state. -/
def wdF (L : Pg) (s : Sta) : Nat → Nat := keptF L (pkF s) L.length
theorem wdF_ok {L : Pg} {s : Sta} (P : StP L s) : okF WS (wdF L s) := keptF_ok (okP P) P.n3
theorem wdF_good {L : Pg} {s : Sta} (P : StP L s) : Good L (wdF L s) := keptF_good (goodP P) P.n3
theorem wdF_hi {L : Pg} {s : Sta} (P : StP L s) {p : Nat} (hp : 3 ≤ p) : wdF L s p = pkF s p := keptF_hi P.n3 hp
theorem wdF_can {L : Pg} {s : Sta} {t : Nat} (ht : t < L.length) : wdF L s (0 + t) = bitN (canF L (pkF s) t) := by
  unfold wdF keptF; rw [if_pos (by omega), Nat.zero_add]

theorem able_any (h : PgH) (L : Pg) (f : Nat → Nat) (th : Int) (w : World) (hf : okF WS f) (h31 : 1 ≤ L.length) (h32 : L.length ≤ 3) (r : Bool) (hr : Hid ((inB th 0 ((L.length : Int) - 1) && (f (0 + th.toNat) == 1)) = r)) :
    Calls Try.prog 72 #[PgV h L, .int .u64 (enc WS f : Nat), .int .i64 th] w fun e w' => e = .returned (.bool r) ∧ Below w.heap.size w w' := by
  rcases Bool.eq_false_or_eq_true (inB th 0 ((L.length : Int) - 1)) with h1 | h1
  · have h1' := h1
    simp [inB] at h1'
    obtain ⟨t, rfl⟩ := Int.eq_ofNat_of_zero_le h1'.1
    have ht : t < 3 := by omega
    have hr' := hr.out
    rw [h1, Bool.true_and, Int.toNat_natCast] at hr'
    obtain ⟨d, hd⟩ : ∃ d : Int, (f (0 + t) : Int) + fL 5 = d := ⟨_, rfl⟩
    have hdv : d = (f (0 + t) : Int) := by rw [← hd]; simp [fL]
    have HD := Lib.hid hd
    have hfin : Hid ((d == 1) = r) := Lib.hid (by rw [← hr', hdv, Bool.eq_iff_iff]; simp; omega)
    have H1 := Lib.hid h1
    have HE := Lib.hid (entF fld5 hf t ht)
    clear hr hr' h1 hd hdv
    go_enter Try.func72, Try.ntmps72
    go_wp2_with fail
    refine (within_b _ _ _ _ _ H1).mono ?_
    rintro e w' ⟨rfl, rfl⟩
    go_wp2_with fail
    refine (HE.out _ _ HD).mono ?_
    rintro e w1 ⟨rfl, hb⟩
    go_wp2
    go_ret
    exact ⟨by rw [← hfin.out]; simp, below_on ((Below.refl _ _).alloc (Nat.le_refl _) _) hb⟩
  · have hfin : Hid (r = false) := Lib.hid (by rw [← hr.out, h1]; rfl)
    have H1 := Lib.hid h1
    clear hr h1
    go_enter Try.func72, Try.ntmps72
    go_wp2_with fail
    refine (within_b _ _ _ _ _ H1).mono ?_
    rintro e w' ⟨rfl, rfl⟩
    go_wp2
    go_ret
    exact ⟨by rw [hfin.out]; rfl, by go_grown⟩

theorem packed_any (h : PgH) (L : Pg) (k : StaH) (s : Sta) (w : World) (B : Nat) (hP : PgR w B h L) (hS : StaR w B k s) (hB : B ≤ w.heap.size) (P : StP L s) :
    Calls Try.prog 97 #[PgV h L, StaV k s] w fun e w' => e = .returned (.int .u64 (enc WS (wdF L s) : Nat)) ∧ Below w.heap.size w w' := by
  obtain ⟨W, hW⟩ : ∃ W, W = (w.alloc (.cells #[.slice h.A L.length h.c] 32)).alloc (.cells #[.slice k.A0 s.f0.length k.c0, .slice k.A1 s.f1.length k.c1, .slice k.A2 s.f2.length k.c2, .slice k.A3 s.f3.length k.c3, .slice k.A4 s.f4.length k.c4] 50) := ⟨_, rfl⟩
  have bW : Below w.heap.size w W := by rw [hW]; go_grown
  have k0 : Bk W w.heap.size 32 #[.slice h.A L.length h.c] := by rw [hW]; exact (Bk.new w _ _).alloc _
  have k1 : Bk W (w.heap.size + 1) 50 #[.slice k.A0 s.f0.length k.c0, .slice k.A1 s.f1.length k.c1, .slice k.A2 s.f2.length k.c2, .slice k.A3 s.f3.length k.c3, .slice k.A4 s.f4.length k.c4] := by
    rw [hW]; have := Bk.new (w.alloc (.cells #[.slice h.A L.length h.c] 32)) #[.slice k.A0 s.f0.length k.c0, .slice k.A1 s.f1.length k.c1, .slice k.A2 s.f2.length k.c2, .slice k.A3 s.f3.length k.c3, .slice k.A4 s.f4.length k.c4] 50
    rwa [World.size_alloc] at this
  have P0 := Lib.hid (hP.below bW hB)
  have Q0 := Lib.hid (hS.below bW hB)
  have K0_0 := Lib.hid k0
  have K1_0 := Lib.hid k1
  have B0 := Lib.hid bW
  have z0 := bW.size
  have HW := Lib.hid hW
  clear hW bW k0 k1 hP hS
  have n0 := P.m0
  have n1 := P.m1
  have n2 := P.m2
  have n3 := P.m3
  have n4 := P.m4
  have n5 := P.n3
  have tok4 : True := trivial
  have e0 := withEntries_any WS 0 3 zeroF k.A0 s.f0 (natL s.f0 (fL 0)) k.c0 W B fld0 zeroF_ok Q0.out.r0 (by omega) (by show s.f0.length ≤ 3; omega) (natL_length _ _) (Lib.hid (sm0 P)) (Lib.hid (bk0 P))
  rw [zeroF_enc] at e0
  have E0 := Lib.hid e0
  clear n0 n1 n2 n3 n4 n5 e0
  go_enter Try.func97, Try.ntmps97
  go_wp2_with fail
  rw [← HW.out]
  refine E0.out.mono ?_
  rintro e w1 ⟨rfl, hb⟩
  have B1 := Lib.hid (below_on B0.out hb)
  have z1 := hb.size
  have P1 := Lib.hid (P0.out.below hb (by omega))
  have Q1 := Lib.hid (Q0.out.below hb (by omega))
  have K0_1 := Lib.hid (K0_0.out.below hb K0_0.out.lt)
  have K1_1 := Lib.hid (K1_0.out.below hb K1_0.out.lt)
  clear hb
  have c1 : w1.cell? ⟨w.heap.size + 1, 1, none⟩ = some (.slice k.A1 s.f1.length k.c1) := K1_1.out.cell 1
  go_wp2_with fail
  clear c1
  refine (withEntries_any WS 1 6 (pk1 s) k.A1 s.f1 (natL s.f1 (fL 1)) k.c1 w1 B fld1 (ok1 P) Q1.out.r1 (by omega) (by have := P.m1; have := P.n3; show s.f1.length ≤ 9; omega) (natL_length _ _) (Lib.hid (sm1 P)) (Lib.hid (bk1 P))).mono ?_
  rintro e w2 ⟨rfl, hb⟩
  have B2 := Lib.hid (below_on B1.out hb)
  have z2 := hb.size
  have P2 := Lib.hid (P1.out.below hb (by omega))
  have Q2 := Lib.hid (Q1.out.below hb (by omega))
  have K0_2 := Lib.hid (K0_1.out.below hb K0_1.out.lt)
  have K1_2 := Lib.hid (K1_1.out.below hb K1_1.out.lt)
  clear hb
  have c2 : w2.cell? ⟨w.heap.size + 1, 2, none⟩ = some (.slice k.A2 s.f2.length k.c2) := K1_2.out.cell 2
  go_wp2_with fail
  clear c2
  refine (withEntries_any WS 2 15 (pk2 s) k.A2 s.f2 (natL s.f2 (fL 2)) k.c2 w2 B fld2 (ok2 P) Q2.out.r2 (by omega) (by have := P.m2; have := P.n3; show s.f2.length ≤ 3; omega) (natL_length _ _) (Lib.hid (sm2 P)) (Lib.hid (bk2 P))).mono ?_
  rintro e w3 ⟨rfl, hb⟩
  have B3 := Lib.hid (below_on B2.out hb)
  have z3 := hb.size
  have P3 := Lib.hid (P2.out.below hb (by omega))
  have Q3 := Lib.hid (Q2.out.below hb (by omega))
  have K0_3 := Lib.hid (K0_2.out.below hb K0_2.out.lt)
  have K1_3 := Lib.hid (K1_2.out.below hb K1_2.out.lt)
  clear hb
  have c3 : w3.cell? ⟨w.heap.size + 1, 3, none⟩ = some (.slice k.A3 s.f3.length k.c3) := K1_3.out.cell 3
  go_wp2_with fail
  clear c3
  refine (withEntries_any WS 3 18 (pk3 s) k.A3 s.f3 (natL s.f3 (fL 3)) k.c3 w3 B fld3 (ok3 P) Q3.out.r3 (by omega) (by have := P.m3; have := P.n3; show s.f3.length ≤ 2; omega) (natL_length _ _) (Lib.hid (sm3 P)) (Lib.hid (bk3 P))).mono ?_
  rintro e w4 ⟨rfl, hb⟩
  have B4 := Lib.hid (below_on B3.out hb)
  have z4 := hb.size
  have P4 := Lib.hid (P3.out.below hb (by omega))
  have Q4 := Lib.hid (Q3.out.below hb (by omega))
  have K0_4 := Lib.hid (K0_3.out.below hb K0_3.out.lt)
  have K1_4 := Lib.hid (K1_3.out.below hb K1_3.out.lt)
  clear hb
  have allS : ∀ w', Below w4.heap.size w4 w' → (Below w4.heap.size w4 w' ∧ w'.cell? ⟨w.heap.size, 0, none⟩ = some (.slice h.A L.length h.c) ∧ w'.cell? ⟨w.heap.size + 1, 4, none⟩ = some (.slice k.A4 s.f4.length k.c4)) := fun w' hb => ⟨hb, (K0_4.out.below hb K0_4.out.lt).cell 0, (K1_4.out.below hb K1_4.out.lt).cell 4⟩
  have AllS := Lib.hid allS
  clear allS
  go_wp2_with fail
  go_region_held3 (fun w' => Below w4.heap.size w4 w' ∧ w'.cell? ⟨w.heap.size, 0, none⟩ = some (.slice h.A L.length h.c) ∧ w'.cell? ⟨w.heap.size + 1, 4, none⟩ = some (.slice k.A4 s.f4.length k.c4)) (first | (go_split_ands; exact AllS.out _ (by go_grown)) | (exact AllS.out _ (by go_grown))) (first | (go_at_call 106; go_split_ands; refine (withEntries_any WS 4 20 (pk4 s) k.A4 s.f4 (natL s.f4 (fL 4)) k.c4 _ B fld4 (ok4 P) (Q4.out.below (show Below w4.heap.size w4 _ from by go_grown) (by omega)).r4 (Nat.le_trans (show B ≤ w4.heap.size by omega) (show Below w4.heap.size w4 _ from by go_grown).size) (by have := P.m4; show s.f4.length ≤ 2; omega) (natL_length _ _) (Lib.hid (sm4 P)) (Lib.hid (bk4 P))).mono ?_; rintro e v1 ⟨rfl, hv⟩; have hBv1 : Below w4.heap.size w4 v1 := below_on (by go_grown) hv; clear hv) | (go_at_call 118; go_split_ands; refine (kept_any h L (pkF s) _ B (P4.out.below (show Below w4.heap.size w4 _ from by go_grown) (by omega)) (Nat.le_trans (show B ≤ w4.heap.size by omega) (show Below w4.heap.size w4 _ from by go_grown).size) P.prog (goodP P)).mono ?_; rintro e v2 ⟨rfl, hv⟩; have hBv2 : Below w4.heap.size w4 v2 := below_on (by go_grown) hv; clear hv))
  have hfin := below_on B4.out hBv2
  go_wp2
  go_ret
  exact ⟨rfl, hfin⟩
end Go.Proofs.Ytaghidaamcnpkab
