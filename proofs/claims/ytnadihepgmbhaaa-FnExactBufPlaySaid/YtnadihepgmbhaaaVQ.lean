/-
  States with buffers as words: what the program's beginQueued, readAt, taken, waitsForBuffers and bufAble come to, with one buffer for each thread or one for each place.
-/
import Derived.Test.YtnadihepgmbhaaaVP
import Derived.Deep.RegionHeld3
import Derived.BigRegion
import Derived.Deep.QuietTactic
import Derived.BigQuiet
import Derived.Test.YtnadihepgmbhaaaWordF
import Derived.Test.YtnadihepgmbhaaaNums
import Derived.Test.YtnadihepgmbhaaaCopy1
import Derived.Test.YtnadihepgmbhaaaRec0
import Derived.Deep.AppendLies
import Derived.Test.YtnadihepgmbhaaaBegin
import Derived.Test.YtnadihepgmbhaaaICan
import Derived.Test.YtnadihepgmbhaaaNev
import Derived.Test.YtnadihepgmbhaaaWithout
import Derived.Test.YtnadihepgmbhaaaQMake
namespace Go.Proofs.Ytnadihepgmbhaaa
open Go.RowKit Pl Go.BigFrame
set_option maxHeartbeats 4000000
set_option maxRecDepth 100000
set_option linter.unusedVariables false

abbrev Z12 : Array Value := #[.int .i64 0, .int .u64 0, .int .u64 0, .int .u64 0, .int .u64 0, .int .u64 0, .int .u64 0, .int .u64 0, .int .u64 0, .int .u64 0, .int .u64 0, .int .u64 0]
theorem putM_lt {m k : Nat} (hm : m < 512) (hk : k < 9) (full : Bool) : putM m k full < 512 := by
  have h1 : m &&& 2 ^ k ≤ m := Nat.and_le_left
  have h2 : (2 : Nat) ^ k < 2 ^ 9 := Nat.pow_lt_pow_right (by omega) hk
  have h3 : m ^^^ (m &&& 2 ^ k) < 2 ^ 9 := Nat.xor_lt_two_pow (by omega) (by omega)
  unfold putM
  split
  · exact Nat.or_lt_two_pow h3 h2
  · exact h3
theorem two_pow {k : Nat} (hk : k < 9) : IntKind.u64.wrap ((2 : Int) ^ k) = ((2 ^ k : Nat) : Int) ∧ (2 : Nat) ^ k < 512 := by
  have h2 : (2 : Nat) ^ k < 2 ^ 9 := Nat.pow_lt_pow_right (by omega) hk
  have e : ((2 : Int) ^ k) = ((2 ^ k : Nat) : Int) := by simp
  rw [e]
  generalize (2 : Nat) ^ k = x at *
  exact ⟨wrapu_small (by omega) (by omega), by omega⟩
theorem mk_off {m k : Nat} (hm : m < 512) (hk : k < 9) : bits .andNot .u64 (m : Int) (IntKind.u64.wrap ((2 : Int) ^ k)) = ((putM m k false : Nat) : Int) := by
  obtain ⟨h1, h2⟩ := two_pow hk
  rw [h1, andNot_u64 (by omega) (by omega)]; rfl
theorem mk_on {m k : Nat} (hm : m < 512) (hk : k < 9) : bits .or .u64 ((putM m k false : Nat) : Int) (IntKind.u64.wrap ((2 : Int) ^ k)) = ((putM m k true : Nat) : Int) := by
  obtain ⟨h1, h2⟩ := two_pow hk
  have := putM_lt hm hk false
  rw [h1, or_u64 (by omega) (by omega)]; rfl
theorem vbk_drew {w : World} {g : Nat} {t : TypeId} {q : Array Value} (h : Bk w g t q) : Bk w.drew g t q := h
theorem withb_raw (e W m k v : Nat) (n : Nat → Nat) (w : World) (hk : k < 9) (hm : m < 512) (full : Bool) (hf : Hid (decide (v ≠ 0) = full)) :
    Calls Try.prog 114 #[.agg (mkQ e W m n), .int .i64 k, .int .u64 v] w fun en w' => en = .returned (.agg (mkQ e W (putM m k full) (setN n k v))) ∧ Below w.heap.size w w' := by
  obtain ⟨W0, hW⟩ : ∃ V, V = (w.alloc (.cells (mkQ e W m n) TQ)).alloc (.cells Z12 TQ) := ⟨_, rfl⟩
  have bW : Below w.heap.size w W0 := by rw [hW]; go_grown
  have k0 : Bk W0 w.heap.size TQ (mkQ e W m n) := by rw [hW]; exact (Bk.new w _ _).alloc _
  have k1 : Bk W0 (w.heap.size + 1) TQ Z12 := by
    rw [hW]; have := Bk.new (w.alloc (.cells (mkQ e W m n) TQ)) Z12 TQ
    rwa [World.size_alloc] at this
  have K0 := Lib.hid k0
  have K1 := Lib.hid k1
  have B0 := Lib.hid bW
  have HW := Lib.hid hW
  have l0 := k0.lt
  clear hW bW k0 k1
  obtain ⟨x2, c2⟩ := K0.out.some_ (i := 2 + k) (by rw [mkQ_size]; omega)
  have f2 := K0.out.free (2 + k)
  have hki : (k : Int) < 9 := by omega
  go_enter Try.func114, Try.ntmps114
  go_wp2_with (rw [← HW.out])
  obtain ⟨V1, hV⟩ : ∃ V, V = W0.setCell ⟨w.heap.size, 2 + k, none⟩ (.int .u64 v) := ⟨_, rfl⟩
  rw [← hV]
  have K01 := Lib.hid (show Bk V1 w.heap.size TQ (mkQ e W m (setN n k v)) by rw [hV, ← mkQ_setk e W m v n hk]; exact K0.out.set (2 + k) _)
  have K11 := Lib.hid (show Bk V1 (w.heap.size + 1) TQ Z12 by rw [hV]; exact K1.out.far (p := ⟨w.heap.size, 2 + k, none⟩) (by show w.heap.size + 1 ≠ w.heap.size; omega) _)
  have B1 := Lib.hid (show Below w.heap.size w V1 by rw [hV]; exact B0.out.setCell (Nat.le_refl _) _)
  clear hV c2 f2 K0 K1
  have c11 : V1.cell? ⟨w.heap.size, 11, none⟩ = some (.int .u64 (m : Nat)) := (K01.out.cell 11).trans (mkQ_11 _ _ _ _)
  have f11 := K01.out.free 11
  have l1 := K01.out.lt
  go_region
  rw [mk_off hm hk]
  obtain ⟨V2, hV⟩ : ∃ V, V = (V1.setCell ⟨w.heap.size, 11, none⟩ (.int .u64 (putM m k false : Nat))).drew := ⟨_, rfl⟩
  rw [← hV]
  have K02 := Lib.hid (show Bk V2 w.heap.size TQ (mkQ e W (putM m k false) (setN n k v)) by rw [hV]; exact vbk_drew (by rw [← mkQ_set11]; exact K01.out.set 11 _))
  have K12 := Lib.hid (show Bk V2 (w.heap.size + 1) TQ Z12 by rw [hV]; exact vbk_drew (K11.out.far (p := ⟨w.heap.size, 11, none⟩) (by show w.heap.size + 1 ≠ w.heap.size; omega) _))
  have B2 := Lib.hid (show Below w.heap.size w V2 by rw [hV]; exact (B1.out.setCell (Nat.le_refl _) _).drew)
  clear hV c11 f11 K01 K11 l1 l0
  have hv0 : ((v : Int) != 0) = full := by rw [← hf.out]; by_cases h : v = 0 <;> simp [h]
  cases full
  · go_wp2_with (first | (refine ld_q rfl _ rfl w.heap.size rfl TQ _ K02.out rfl ?_) | (refine st_q rfl _ _ rfl (w.heap.size + 1) rfl TQ _ _ rfl K12.out rfl rfl (mkQ_one _ _ _ _) ?_; intro V3 s3))
    exact bodyPost_ret (v := .agg (mkQ e W (putM m k false) (setN n k v))) (res_q rfl rfl s3.bk rfl) rfl ⟨rfl, B2.out.trans (s3.bel _ (by omega))⟩
  · have c11 : V2.cell? ⟨w.heap.size, 11, none⟩ = some (.int .u64 (putM m k false : Nat)) := (K02.out.cell 11).trans (mkQ_11 _ _ _ _)
    have f11 := K02.out.free 11
    have l1 := K02.out.lt
    go_wp2
    go_region
    rw [mk_on hm hk]
    obtain ⟨V4, hV⟩ : ∃ V, V = (V2.setCell ⟨w.heap.size, 11, none⟩ (.int .u64 (putM m k true : Nat))).drew := ⟨_, rfl⟩
    rw [← hV]
    have K03 := Lib.hid (show Bk V4 w.heap.size TQ (mkQ e W (putM m k true) (setN n k v)) by rw [hV]; exact vbk_drew (by rw [← mkQ_set11]; exact K02.out.set 11 _))
    have K13 := Lib.hid (show Bk V4 (w.heap.size + 1) TQ Z12 by rw [hV]; exact vbk_drew (K12.out.far (p := ⟨w.heap.size, 11, none⟩) (by show w.heap.size + 1 ≠ w.heap.size; omega) _))
    have B3 := Lib.hid (show Below w.heap.size w V4 by rw [hV]; exact (B2.out.setCell (Nat.le_refl _) _).drew)
    clear hV c11 f11 K02 K12 l1
    go_wp2_with (first | (refine ld_q rfl _ rfl w.heap.size rfl TQ _ K03.out rfl ?_) | (refine st_q rfl _ _ rfl (w.heap.size + 1) rfl TQ _ _ rfl K13.out rfl rfl (mkQ_one _ _ _ _) ?_; intro V3 s3))
    exact bodyPost_ret (v := .agg (mkQ e W (putM m k true) (setN n k v))) (res_q rfl rfl s3.bk rfl) rfl ⟨rfl, B3.out.trans (s3.bel _ (by omega))⟩
/-- A record with another word for a buffer. -/
theorem withb_any (e : Nat) (f : Nat → Nat) (b : Nat → List Nat) (k : Nat) (v : List Nat) (w : World) (hk : k < 9) :
    Calls Try.prog 114 #[QV e f b, .int .i64 k, .int .u64 (bwC v : Nat)] w fun en w' => en = .returned (QV e f (updB b k v)) ∧ Below w.heap.size w w' := by
  have := withb_raw e (enc WS f) (mk9 b) k (bwC v) (fun i => bwC (b i)) w hk (mk9_lt b) (!v.isEmpty) (Lib.hid (bw_full v).symm)
  rw [qv_put e _ b v hk] at this
  exact this
theorem bff_raw (e W m t p : Nat) (n : Nat → Nat) (w : World) (he : Ech e) (ht : t < 3) (hp : p < 3) :
    Calls Try.prog 110 #[.agg (mkQ e W m n), .int .i64 t, .int .i64 p] w fun en w' => en = .returned (.int .i64 (bfi e t p : Nat)) ∧ Below w.heap.size w w' := by
  obtain ⟨W0, hW⟩ : ∃ V, V = w.alloc (.cells (mkQ e W m n) TQ) := ⟨_, rfl⟩
  have bW : Below w.heap.size w W0 := by rw [hW]; go_grown
  have k0 : Bk W0 w.heap.size TQ (mkQ e W m n) := by rw [hW]; exact Bk.new w _ _
  have B0 := Lib.hid bW
  have HW := Lib.hid hW
  have c0 : W0.cell? ⟨w.heap.size, 0, none⟩ = some (.int .i64 (e : Nat)) := (k0.cell 0).trans (mkQ_0 _ _ _ _)
  have l0 := k0.lt
  clear hW bW k0
  obtain ⟨q, hq⟩ : ∃ q, mkQ e W m n = q := ⟨_, rfl⟩
  rw [hq] at HW ⊢
  clear hq
  rcases he with rfl | rfl
  · have c0 : W0.cell? ⟨w.heap.size, 0, none⟩ = some (.int .i64 1) := c0
    have hr : Int.tmod (p : Int) 1 = 0 := Int.tmod_one _
    go_enter Try.func110, Try.ntmps110
    go_wp2_with (rw [← HW.out])
    go_quiet (fail)
    go_wp2
    go_ret
    exact ⟨by rw [bfi1]; simp, below_drewN B0.out _⟩
  · have c0 : W0.cell? ⟨w.heap.size, 0, none⟩ = some (.int .i64 3) := c0
    have hr : Int.tmod (p : Int) 3 = (p : Int) := by rw [Int.tmod_eq_emod_of_nonneg (by omega)]; omega
    go_enter Try.func110, Try.ntmps110
    go_wp2_with (rw [← HW.out])
    go_quiet (fail)
    go_wp2
    go_ret
    exact ⟨by rw [bfi3 t p hp]; simp, below_drewN B0.out _⟩
theorem stc_raw (h : PgH) (L : Pg) (e W m : Nat) (n : Nat → Nat) (w : World) (he : Ech e) (h3 : L.length ≤ 3) :
    Calls Try.prog 119 #[PgV h L, .agg (mkQ e W m n)] w fun en w' => en = .returned (.int .i64 (L.length * (1 + e) : Nat)) ∧ Below w.heap.size w w' := by
  obtain ⟨W0, hW⟩ : ∃ V, V = (w.alloc (.cells #[.slice h.A L.length h.c] 36)).alloc (.cells (mkQ e W m n) TQ) := ⟨_, rfl⟩
  have bW : Below w.heap.size w W0 := by rw [hW]; go_grown
  have k0 : Bk W0 w.heap.size 36 #[.slice h.A L.length h.c] := by rw [hW]; exact (Bk.new w _ _).alloc _
  have k1 : Bk W0 (w.heap.size + 1) TQ (mkQ e W m n) := by
    rw [hW]; have := Bk.new (w.alloc (.cells #[.slice h.A L.length h.c] 36)) (mkQ e W m n) TQ
    rwa [World.size_alloc] at this
  have B0 := Lib.hid bW
  have HW := Lib.hid hW
  have c1 : W0.cell? ⟨w.heap.size, 0, none⟩ = some (.slice h.A L.length h.c) := k0.cell 0
  have c0 : W0.cell? ⟨w.heap.size + 1, 0, none⟩ = some (.int .i64 (e : Nat)) := (k1.cell 0).trans (mkQ_0 _ _ _ _)
  have l0 := k0.lt
  have l1 := k1.lt
  clear hW bW k0 k1
  obtain ⟨q, hq⟩ : ∃ q, mkQ e W m n = q := ⟨_, rfl⟩
  rw [hq] at HW ⊢
  clear hq
  rcases he with rfl | rfl
  · have c0 : W0.cell? ⟨w.heap.size + 1, 0, none⟩ = some (.int .i64 1) := c0
    go_enter Try.func119, Try.ntmps119
    go_wp2_with (rw [← HW.out])
    go_ret
    exact ⟨by simp, B0.out⟩
  · have c0 : W0.cell? ⟨w.heap.size + 1, 0, none⟩ = some (.int .i64 3) := c0
    go_enter Try.func119, Try.ntmps119
    go_wp2_with (rw [← HW.out])
    go_ret
    exact ⟨by simp, B0.out⟩
theorem own_raw (e W t : Nat) (b : Nat → List Nat) (w : World) (he : Ech e) (ht : t < 3) (r : Nat) (hr : Hid (mk9 b / 2 ^ (t * e) % 2 ^ e = r)) :
    Calls Try.prog 122 #[.agg (mkQ e W (mk9 b) fun i => bwC (b i)), .int .i64 t] w fun en w' => en = .returned (.int .u64 r) ∧ Below w.heap.size w w' := by
  obtain ⟨W0, hW⟩ : ∃ V, V = w.alloc (.cells (mkQ e W (mk9 b) fun i => bwC (b i)) TQ) := ⟨_, rfl⟩
  have bW : Below w.heap.size w W0 := by rw [hW]; go_grown
  have k0 : Bk W0 w.heap.size TQ (mkQ e W (mk9 b) fun i => bwC (b i)) := by rw [hW]; exact Bk.new w _ _
  have B0 := Lib.hid bW
  have HW := Lib.hid hW
  have lk := k0.lt
  have HS := Lib.hid (fr_none W0)
  haveI hne := Nonempty.intro (Ws.mk _ (fr_none W0))
  have g0 : ∀ x : Ws (Fr W0 []), x.val.cell? ⟨w.heap.size, 0, none⟩ = some (.int .i64 (e : Nat)) := Ws.same (bs := []) lk ((k0.cell 0).trans (mkQ_0 _ _ _ _))
  have g11 : ∀ x : Ws (Fr W0 []), x.val.cell? ⟨w.heap.size, 11, none⟩ = some (.int .u64 (mk9 b : Nat)) := Ws.same (bs := []) lk ((k0.cell 11).trans (mkQ_11 _ _ _ _))
  have GK := Lib.hid (fun w' (h : In (Fr W0 []) w') => (show Bk w' w.heap.size TQ (mkQ e W (mk9 b) fun i => bwC (b i)) from by obtain ⟨x, rfl⟩ := h; exact k0.below x.ok.below lk))
  have hfin : Hid (bits .and .u64 (((mk9 b : Nat) : Int) / 2 ^ (t * e)) (IntKind.u64.wrap (IntKind.u64.wrap ((2 : Int) ^ e) - 1)) = ((r : Nat) : Int)) := Lib.hid (by
    have h9 := mk9_lt b
    have e1 : ((mk9 b : Nat) : Int) / 2 ^ (t * e) = ((mk9 b / 2 ^ (t * e) : Nat) : Int) := by simp
    have e2 : IntKind.u64.wrap (IntKind.u64.wrap ((2 : Int) ^ e) - 1) = ((2 ^ e - 1 : Nat) : Int) := by rcases he with rfl | rfl <;> rfl
    have e3 : mk9 b / 2 ^ (t * e) ≤ mk9 b := Nat.div_le_self _ _
    have e4 : (2 : Nat) ^ e - 1 < 18446744073709551616 := by rcases he with rfl | rfl <;> decide
    rw [e1, e2, and_u64 (by omega) e4, Nat.and_two_pow_sub_one_eq_mod, hr.out])
  have hbf : bfi e t 0 = t * e := by unfold bfi; simp
  have hte : t * e ≤ 6 := by rcases he with rfl | rfl <;> omega
  have BF := Lib.hid (fun v => bff_raw e W (mk9 b) t 0 (fun i => bwC (b i)) v he ht (by omega))
  rw [hbf] at BF
  obtain ⟨te, hte2⟩ : ∃ te, t * e = te := ⟨_, rfl⟩
  rw [hte2] at BF hfin hte
  have he3 : (e : Int) ≤ 3 := by rcases he with rfl | rfl <;> decide
  clear hW bW k0 hr hte2 hbf
  go_enter Try.func122, Try.ntmps122
  go_wp2_with (rw [← HW.out])
  refine region_in (by kernel_rfl) HS.out.drew ?_
  repeat (first | (refine qd_q rfl _ rfl w.heap.size rfl TQ _ rfl GK.out ?_; simp only [Act.put, List.setIfInBounds_toArray, List.set_cons_succ, List.set_cons_zero]) | go_big_quiet_step ((go_at_call 110; exact call_in (BF.out _))))
  refine wpQuiet_nil ?_
  rintro _ ⟨⟨w2, hw2⟩, rfl⟩
  have hB2 := below_on B0.out hw2.below
  rw [hfin.out]
  go_wp2
  go_ret
  exact ⟨rfl, hB2⟩
end Go.Proofs.Ytnadihepgmbhaaa
namespace Go.Proofs.Ytnadihepgmbhaaa
open Go.RowKit Pl Go.BigFrame
set_option maxHeartbeats 2000000
set_option maxRecDepth 100000
set_option linter.unusedVariables false

theorem putb_any (cs : List Nat) (p v : Nat) (w : World) (hc : okS cs) (hl : cs.length ≤ 7) (hp : p < 3) (hv : v < 4) :
    Calls Try.prog 157 #[.int .u64 (bwC cs : Nat), .int .i64 p, .int .i64 v] w fun e w' => e = .returned (.int .u64 (bwC (cs ++ [p * 4 + v]) : Nat)) ∧ w = w' := by
  obtain ⟨W, hW⟩ : ∃ W, bwC cs = W := ⟨_, rfl⟩
  have hlt : W < 72057594037927936 := by rw [← hW]; exact bwC_small hc hl
  have hs : W * 256 < 18446744073709551616 := by omega
  rw [bwC_snoc, hW, ← put_word W (p * 4 + v) (by omega)]
  clear hW hc hl
  go_enter Try.func157, Try.ntmps157
  go_wp2
  go_ret
  refine ⟨?_, rfl⟩
  have h1 : (W : Int) * 256 = ((W * 256 : Nat) : Int) := by omega
  have h2 : (p : Int) * 4 + (v : Int) = ((p * 4 + v : Nat) : Int) := by omega
  have h3 : W * 256 ||| 16 < 18446744073709551616 := by rw [or_low W 16 8 (by omega)]; omega
  have h4 : bits .or .u64 ((W : Int) * 256) 16 = ((W * 256 ||| 16 : Nat) : Int) := by rw [h1]; exact or_u64 hs (b := 16) (by omega)
  have h5 : bits .or .u64 (bits .or .u64 ((W : Int) * 256) 16) ((p : Int) * 4 + (v : Int)) = ((W * 256 ||| 16 ||| (p * 4 + v) : Nat) : Int) := by rw [h4, h2]; exact or_u64 h3 (by omega)
  rw [← h5]; rfl
theorem lows_any (W : Nat) (w : World) (hW : W < 18446744073709551616) (c : Nat) (hc : Hid (W % 16 = c)) :
    Calls Try.prog 111 #[.int .u64 W] w fun e w' => e = .returned (.tuple #[.int .i64 (c / 4 : Nat), .int .i64 (c % 4 : Nat)]) ∧ w = w' := by
  have hand : bits .and .u64 (W : Int) 15 = ((c : Nat) : Int) := by
    have := and_u64 (a := W) (b := 15) hW (by omega)
    rw [show W &&& 15 = W % 16 from Nat.and_two_pow_sub_one_eq_mod W 4, hc.out] at this
    exact this
  have hc16 : c < 16 := by rw [← hc.out]; omega
  clear hc
  have e1 : Int.tdiv (c : Int) 4 = ((c / 4 : Nat) : Int) := by rw [Int.tdiv_eq_ediv_of_nonneg (by omega)]; omega
  have e2 : Int.tmod (c : Int) 4 = ((c % 4 : Nat) : Int) := by rw [Int.tmod_eq_emod_of_nonneg (by omega)]; omega
  go_enter Try.func111, Try.ntmps111
  go_wp2
  exact bodyPost_ret (v := .tuple #[.int .i64 (c / 4 : Nat), .int .i64 (c % 4 : Nat)]) (by simp [results, Try.results111, go_sem]) rfl ⟨rfl, rfl⟩
theorem oldf_any (c : Nat) (r : List Nat) (w : World) (h : okS (c :: r)) (hl : r.length ≤ 7) :
    Calls Try.prog 175 #[.int .u64 (bwC (c :: r) : Nat)] w fun e w' => e = .returned (.int .i64 (8 * r.length : Nat)) ∧ w = w' := by
  obtain ⟨W, hW⟩ : ∃ W, bwC (c :: r) = W := ⟨_, rfl⟩
  have hlt : W < 18446744073709551616 := by rw [← hW]; exact bwC_8 h (by simp; omega)
  have more := Lib.hid (fun k => bwC_more (k := k) h)
  rw [hW] at *
  clear hW h
  generalize r.length = n at *
  go_enter Try.func175, Try.ntmps175
  go_wp2
  go_loop [3] (fun i => ∃ k : Nat, k ≤ n ∧ i = .int .i64 (8 * k : Nat)) (fun i => 8 * n + 8 - (intOf i).toNat)
  case atStart => exact ⟨0, Nat.zero_le _, rfl⟩
  case round =>
    obtain ⟨k, hk, rfl⟩ := hrel
    have hs : (W : Int) / 2 ^ (8 * (k : Int) + 8).toNat = ((W / 256 ^ (k + 1) : Nat) : Int) := by
      rw [div_pow W (8 * (k + 1)) _ (by omega), pow256]
    have hm := more.out k
    obtain ⟨Q, hQ⟩ : ∃ Q, W / 256 ^ (k + 1) = Q := ⟨_, rfl⟩
    rw [hQ] at hs hm
    clear hQ
    by_cases hlt2 : k < n
    · have hne : ((Q : Int) != 0) = true := by have := hm.2 hlt2; simp; omega
      clear hm
      go_wp2
      go_round
      case rel => exact ⟨k + 1, by omega, by go_num⟩
      case measure => simp [intOf]; omega
    · have hne : ((Q : Int) != 0) = false := by
        have : Q = 0 := by
          by_cases e : Q = 0
          · exact e
          · exact absurd (hm.1 e) hlt2
        simp [this]
      have hkn : k = n := by omega
      subst hkn
      clear hm
      go_wp2
      go_ret
      exact ⟨rfl, rfl⟩
theorem mask_low (W n : Nat) (hW : W < 18446744073709551616) (hn : n ≤ 7) : bits .and .u64 (W : Int) (IntKind.u64.wrap (IntKind.u64.wrap ((2 : Int) ^ (8 * n)) - 1)) = ((W % 256 ^ n : Nat) : Int) := by
  have hp : (256 : Nat) ^ n ≤ 256 ^ 7 := Nat.pow_le_pow_right (by omega) hn
  have h7 : (256 : Nat) ^ 7 = 72057594037927936 := rfl
  have hp0 : 0 < (256 : Nat) ^ n := Nat.pow_pos (by omega)
  have e1 : ((2 : Int) ^ (8 * n)) = ((256 ^ n : Nat) : Int) := by rw [← pow256]; simp
  have hand : W &&& (256 ^ n - 1) = W % 256 ^ n := by rw [← pow256]; exact Nat.and_two_pow_sub_one_eq_mod W (8 * n)
  rw [e1]
  generalize (256 : Nat) ^ n = P at *
  rw [wrapu_small (x := (P : Int)) (by omega) (by omega), show (P : Int) - 1 = ((P - 1 : Nat) : Int) by omega, wrapu_small (by omega) (by omega), and_u64 hW (by omega), hand]
theorem witho_any (c : Nat) (r : List Nat) (w : World) (h : okS (c :: r)) (hl : r.length ≤ 7) :
    Calls Try.prog 148 #[.int .u64 (bwC (c :: r) : Nat)] w fun e w' => e = .returned (.int .u64 (bwC r : Nat)) ∧ w = w' := by
  have hlt : bwC (c :: r) < 18446744073709551616 := bwC_8 h (by simp; omega)
  have hrest := bwC_rest h
  have OF := fun w => oldf_any c r w h hl
  rw [← hrest]
  obtain ⟨n, hn⟩ : ∃ n, r.length = n := ⟨_, rfl⟩
  rw [hn] at OF hl
  rw [hn]
  clear hrest
  revert OF
  generalize bwC (c :: r) = W at *
  intro OF
  have OF := Lib.hid OF
  have hn8 : 8 * n ≤ 56 := by omega
  clear h hn
  go_enter Try.func148, Try.ntmps148
  go_wp2_with fail
  refine (OF.out _).mono ?_
  rintro e w' ⟨rfl, rfl⟩
  go_wp2
  go_ret
  refine ⟨?_, rfl⟩
  rw [← mask_low W n hlt hl]; rfl
/-- A list that a loop makes by appends. -/
def PuB (w wr : World) (v : Value) (n : Nat) (xs : List Int) : Prop := ∃ g c, v = .slice (some ⟨g, 0, none⟩) n c ∧ w.heap.size ≤ g ∧ wr.ownsRow w.heap.size 3 1 (.slice (some ⟨g, 0, none⟩) n c) n (ints xs) ∧ Below w.heap.size w wr
theorem cell2_new (w : World) (a b : Value) (t : TypeId) : ∀ j u, [a, b][j]? = some u → (w.alloc (.cells #[a, b] t)).cell? ((⟨w.heap.size, 0, none⟩ : Addr).add j) = some u := by
  intro j u h
  have hb := (Bk.new w #[a, b] t)
  have e : (⟨w.heap.size, 0, none⟩ : Addr).add j = ⟨w.heap.size, j, none⟩ := by
    unfold Addr.add
    split <;> simp_all
  rw [e, hb.cell j]
  simpa using h
theorem bufword_any (A : Option Addr) (cs : List Nat) (c : Nat) (w : World) (B : Nat) (h : Vs w B A (ints (rowS cs))) (hc : okS cs) (hl : cs.length ≤ 7) (hB : B ≤ w.heap.size) :
    Calls Try.prog 134 #[.slice A (rowS cs).length c] w fun e w' => e = .returned (.int .u64 (bwC cs : Nat)) ∧ Below w.heap.size w w' := by
  have hlen : (rowS cs).length = 2 * cs.length := rowS_length cs
  obtain ⟨n, hn⟩ : ∃ n, (rowS cs).length = n := ⟨_, rfl⟩
  rw [hn]
  rw [hn] at hlen
  have HN := Lib.hid hn
  clear hn
  go_enter Try.func134, Try.ntmps134
  go_wp2
  go_loopw [3, 4] (fun b i wr => ∃ k : Nat, k ≤ cs.length ∧ b = .int .u64 (bwC (cs.take k) : Nat) ∧ i = .int .i64 (2 * k + 1 : Nat) ∧ Below w.heap.size w wr) (fun b i _ => n + 1 - (intOf i).toNat)
  case atStart => exact ⟨0, Nat.zero_le _, rfl, rfl, Below.refl _ _⟩
  case round =>
    obtain ⟨k, hk, rfl, rfl, hbel⟩ := hrel
    have hz := hbel.size
    by_cases hlt : k < cs.length
    · obtain ⟨x, hx, -⟩ := drop_at hlt
      have hx12 := hc x (List.mem_of_getElem? hx)
      have htk : cs.take (k + 1) = cs.take k ++ [x] := by rw [List.take_add_one, hx]; rfl
      have hok : okS (cs.take k) := fun y hy => hc y (List.mem_of_mem_take hy)
      have hlk : (cs.take k).length ≤ 7 := by rw [List.length_take]; omega
      obtain ⟨b, off, hA, hb, hcell⟩ := h (by rw [ints_length, HN.out]; omega)
      subst hA
      have c0 : w.cell? ⟨b, off + 2 * k, none⟩ = some (.int .i64 ((x / 4 : Nat) : Int)) := hcell _ _ (ints_at (rowS_at0 hx))
      have c1 : w.cell? ⟨b, off + (2 * k + 1), none⟩ = some (.int .i64 ((x % 4 : Nat) : Int)) := hcell _ _ (ints_at (rowS_at1 hx))
      have e0 : wr.cell? ⟨b, off + 2 * k, none⟩ = some (.int .i64 ((x / 4 : Nat) : Int)) := (hbel.cell (p := ⟨b, off + 2 * k, none⟩) (by show b < w.heap.size; omega)).trans c0
      have e1 : wr.cell? ⟨b, off + (2 * k + 1), none⟩ = some (.int .i64 ((x % 4 : Nat) : Int)) := (hbel.cell (p := ⟨b, off + (2 * k + 1), none⟩) (by show b < w.heap.size; omega)).trans c1
      have hbw : b < wr.heap.size := by omega
      have hi0 : ((2 * k + 1 : Nat) : Int) - 1 = ((2 * k : Nat) : Int) := by omega
      have hi1 : ((2 * k + 1 : Nat) : Int) < (n : Int) := by omega
      have hi2 : ((2 * k : Nat) : Int) < (n : Int) := by omega
      have hW : (bwC (cs.take k) * 256 + (16 + x)) < 18446744073709551616 := by have := bwC_small hok hlk; omega
      have PB := Lib.hid (fun v => (putb_any (cs.take k) (x / 4) (x % 4) v hok hlk (by omega) (by omega)).mono fun e w' (h : _ ∧ v = w') => (⟨h.1, by rw [← h.2]; exact Below.refl _ _⟩ : e = Ending.returned (.int .u64 (bwC (cs.take k ++ [x / 4 * 4 + x % 4]) : Nat)) ∧ Below v.heap.size v w'))
      rw [show x / 4 * 4 + x % 4 = x by omega, ← htk] at PB
      clear c0 c1 hcell hx htk h
      have hS := fr_none wr
      have g0 := Ws.same (bs := []) hbw e0
      have g1 := Ws.same (bs := []) hbw e1
      haveI hne := Nonempty.intro (Ws.mk _ hS)
      have HS := Lib.hid hS
      clear hS e0 e1
      go_wp2_with fail
      refine region_in (by kernel_rfl) HS.out.drew ?_
      repeat (go_big_quiet_step ((go_at_call 157; exact call_in (PB.out _))))
      refine wpQuiet_nil ?_
      rintro w2 ⟨⟨_, hw2⟩, rfl⟩
      have hB2 : Below w.heap.size w w2 := below_on hbel hw2.below
      clear g0 g1
      go_wp2
      go_roundw
      case rel => exact ⟨k + 1, by omega, rfl, by go_num, hB2⟩
      case measure => simp [intOf]; omega
    · have hkl : k = cs.length := by omega
      subst hkl
      have hge : ¬ ((2 * cs.length + 1 : Nat) : Int) < (n : Int) := by omega
      rw [List.take_length]
      go_wp2
      go_ret
      exact ⟨rfl, hbel⟩
theorem olds_any (c : Nat) (r : List Nat) (w : World) (h : okS (c :: r)) (hl : r.length ≤ 7) :
    Calls Try.prog 149 #[.int .u64 (bwC (c :: r) : Nat)] w fun e w' => e = .returned (.tuple #[.int .i64 (c / 4 : Nat), .int .i64 (c % 4 : Nat)]) ∧ w = w' := by
  have hx12 := h.head
  have hhead := bwC_head h
  have OF := Lib.hid (fun v => oldf_any c r v h hl)
  have LO := Lib.hid (fun v => lows_any (16 + c) v (by omega) c (Lib.hid (by omega)))
  have hs : ((bwC (c :: r) : Nat) : Int) / 2 ^ (8 * (r.length : Int)).toNat = ((16 + c : Nat) : Int) := by
    rw [div_pow (bwC (c :: r)) (8 * r.length) _ (by omega), pow256, hhead]
  revert OF hs
  clear hhead h
  generalize bwC (c :: r) = W
  intro OF hs
  generalize r.length = n at *
  go_enter Try.func149, Try.ntmps149
  go_wp2_with fail
  refine (OF.out _).mono ?_
  rintro e w' ⟨rfl, rfl⟩
  go_wp2_with fail
  refine (LO.out _).mono ?_
  rintro e w' ⟨rfl, rfl⟩
  go_wp2
  exact bodyPost_ret (v := .tuple #[.int .i64 (c / 4 : Nat), .int .i64 (c % 4 : Nat)]) (by simp [results, Try.results149, go_sem]) rfl ⟨rfl, rfl⟩
theorem buflist_any (cs : List Nat) (w : World) (hc : okS cs) (hl : cs.length ≤ 7) :
    Calls Try.prog 132 #[.int .u64 (bwC cs : Nat)] w fun e w' => ∃ A c, e = .returned (.slice A (2 * cs.length : Nat) c) ∧ Below w.heap.size w w' ∧ OwnVs w' w.heap.size w'.heap.size 3 A (ints (rowS cs)) := by
  obtain ⟨i0, hi, iz0, iz1, iz2⟩ := info_parts Try.info3
  have start : Hid (PuB w (w.alloc (.cells #[] 3)) (.slice (some ⟨w.heap.size, 0, none⟩) 0 0) 0 []) := Lib.hid ⟨w.heap.size, 0, rfl, Nat.le_refl _, World.ownsRow_made w #[] 0 (Nat.le_refl _) (by decide) (by simp), (Below.refl _ _).alloc (Nat.le_refl _) _⟩
  go_enter Try.func132, Try.ntmps132
  go_wp2_with fail
  go_loopw [0, 3] (fun b l wr => ∃ d r : List Nat, cs = d ++ r ∧ b = .int .u64 (bwC r : Nat) ∧ PuB w wr l (2 * d.length) (rowS d)) (fun b _ _ => (intOf b).toNat)
  case atStart => exact ⟨[], cs, rfl, rfl, start.out⟩
  case round =>
    obtain ⟨d, r, hcs, rfl, g, cap, rfl, hg, hown, hbel⟩ := hrel
    clear start
    have hz := hbel.size
    cases r with
    | cons x r =>
      have hok : okS (x :: r) := fun y hy => hc y (by rw [hcs]; exact List.mem_append_right _ hy)
      have hdl : d.length + r.length + 1 = cs.length := by rw [hcs]; simp; omega
      have hx12 := hok.head
      have hW8 : bwC (x :: r) < 18446744073709551616 := bwC_8 hok (by simp; omega)
      have hpos : bwC (x :: r) ≠ 0 := fun e => by have := bwC_zero.1 e; cases this
      have hlt : bwC r < bwC (x :: r) := Nat.lt_of_lt_of_le (bwC_lt hok.tail) bwC_ge
      have OS := Lib.hid (fun v => olds_any x r v hok (by omega))
      have WO := Lib.hid (fun v => witho_any x r v hok (by omega))
      have HCS := Lib.hid (show cs = (d ++ [x]) ++ r by rw [hcs]; simp)
      have HO := Lib.hid hown
      have HB := Lib.hid hbel
      have HR := Lib.hid (rowS_snoc d x)
      have HL := Lib.hid (rowS_length d)
      revert OS WO hlt hpos hW8
      clear hown hbel hcs
      generalize bwC (x :: r) = W
      generalize hV : bwC r = V
      have HV := Lib.hid hV
      clear hV
      intro hW8 hpos hlt OS WO
      have hne : ((W : Int) != 0) = true := by simp; omega
      clear hpos
      generalize r.length = n at *
      go_wp2_with fail
      refine (OS.out _).mono ?_
      rintro e w' ⟨rfl, rfl⟩
      have z1 := wr.heap.size
      go_wp2_with (at_builtin; refine wpList_append_own _ rfl (.tmp 14) (.tmp 17) 26 rfl w.heap.size 3 i0 _ 1 8 Try.underlying26 hi iz0 iz1 iz2 rfl (by decide) _ (2 * d.length) _ rfl (HO.out.alloc _) ⟨_, 0, none⟩ 2 2 [.int .i64 _, .int .i64 _] rfl rfl (cell2_new _ _ _ _) (by intro u hu; simp at hu; rcases hu with rfl | rfl <;> rfl) (by unfold maxLen; omega) (by omega) (by simp; omega) ?_; intro v' w3 own3 grow3 _; obtain ⟨g3, cap3, rfl, hg3, hlt3⟩ := own3.form (by omega); have Own3 := Lib.hid own3; have B3 := Lib.hid ((HB.out.alloc hz _).grown grow3 (by simp; omega) (by intro q hq; cases hq; exact hg)); clear own3 grow3)
      refine (WO.out _).mono ?_
      rintro e w' ⟨rfl, rfl⟩
      have OI := Lib.hid (show w3.ownsRow w.heap.size 3 1 (.slice (some ⟨g3, 0, none⟩) (2 * d.length + 2) cap3) (2 * d.length + 2) (ints (rowS (d ++ [x]))) from by have := Own3.out; rw [HR.out]; simpa [ints] using this)
      go_wp2
      go_roundw
      case rel => exact ⟨d ++ [x], r, HCS.out, by rw [HV.out], g3, cap3, by simp [Nat.mul_add], hg3, by simpa [Nat.mul_add] using OI.out, B3.out⟩
      case measure => first | (simp [intOf]; done) | (simp [intOf]; omega)
    | nil =>
      rw [bwC_nil]
      have e : d = cs := by rw [hcs]; simp
      subst e
      have HO := Lib.hid hown
      clear hown hcs
      go_wp2
      go_ret
      exact ⟨_, _, rfl, hbel, own_vs HO.out rfl⟩
/-- The values of stores. -/
def rowV (cs : List Nat) : List Int := cs.map fun c => ((c % 4 : Nat) : Int)
/-- The codes of a row of values at a place. -/
def cdV (p : Nat) (xs : List Int) : List Nat := xs.map fun x => p * 4 + x.toNat
theorem cdV_length (p : Nat) (xs : List Int) : (cdV p xs).length = xs.length := List.length_map ..
def vokB (xs : List Int) : Bool := decide (xs.length ≤ 6) && allIn xs 0 3
theorem vok_parts {p : Nat} {xs : List Int} (hp : p < 3) (h : vokB xs = true) : okS (cdV p xs) ∧ (cdV p xs).length ≤ 6 ∧ rowV (cdV p xs) = xs ∧ ∀ c ∈ cdV p xs, c / 4 = p := by
  simp only [vokB, Bool.and_eq_true, decide_eq_true_eq] at h
  obtain ⟨h1, h2⟩ := h
  have hx : ∀ x ∈ xs, 0 ≤ x ∧ x ≤ 3 := fun x hm => inB_nat (List.all_eq_true.1 h2 x hm)
  refine ⟨fun c hc => ?_, by rw [cdV_length]; exact h1, ?_, fun c hc => ?_⟩
  · obtain ⟨x, hm, rfl⟩ := List.mem_map.1 hc
    have := hx x hm; omega
  · unfold rowV cdV
    rw [List.map_map]
    refine (List.map_congr_left fun x hm => ?_).trans (List.map_id xs)
    have := hx x hm
    show (((p * 4 + x.toNat) % 4 : Nat) : Int) = x
    omega
  · obtain ⟨x, hm, rfl⟩ := List.mem_map.1 hc
    have := hx x hm; omega
end Go.Proofs.Ytnadihepgmbhaaa
namespace Go.Proofs.Ytnadihepgmbhaaa
open Go.RowKit Pl Go.BigFrame
set_option maxHeartbeats 4000000
set_option maxRecDepth 100000
set_option linter.unusedVariables false

theorem begq_any (h : PgH) (L : Pg) (e : Nat) (w : World) (B : Nat) (hR : PgR w B h L) (hB : B ≤ w.heap.size) (hL : progB L = true) :
    Calls Try.prog 56 #[PgV h L, .int .i64 e] w fun en w' => en = .returned (QV e (keptF L zeroF L.length) (fun _ => [])) ∧ Below w.heap.size w w' := by
  obtain ⟨W, hW⟩ : ∃ W, W = (w.alloc (.cells #[.slice h.A L.length h.c] 36)).alloc (.cells Z12 TQ) := ⟨_, rfl⟩
  have bW : Below w.heap.size w W := by rw [hW]; go_grown
  have k1 : Bk W (w.heap.size + 1) TQ Z12 := by
    rw [hW]; have := Bk.new (w.alloc (.cells #[.slice h.A L.length h.c] 36)) Z12 TQ
    rwa [World.size_alloc] at this
  have P := Lib.hid (hR.below bW hB)
  have K1 := Lib.hid k1
  have BW := Lib.hid bW
  have hz := bW.size
  have HW := Lib.hid hW
  have c0 : W.cell? ⟨w.heap.size, 0, none⟩ = some (.slice h.A L.length h.c) := by
    have : Bk W w.heap.size 36 #[.slice h.A L.length h.c] := by rw [hW]; exact (Bk.new w _ _).alloc _
    exact this.cell 0
  have l0 : w.heap.size < W.heap.size := by have := k1.lt; omega
  clear hW bW hR k1
  have key := begword_any h L W B P.out (by omega) hL
  generalize hE : (enc WS (keptF L zeroF L.length) : Nat) = E at key
  have HE := Lib.hid (show QV e (keptF L zeroF L.length) (fun _ => []) = .agg (mkQ e E 0 fun _ => 0) by unfold QV; rw [hE, mk9_nil]; rfl)
  rw [HE.out]
  have HK := Lib.hid key
  clear key hE
  go_enter Try.func56, Try.ntmps56
  go_wp2_with (rw [← HW.out])
  refine HK.out.mono ?_
  rintro en w1 ⟨rfl, hb⟩
  have B1 := Lib.hid (below_on BW.out hb)
  have K2 := Lib.hid (K1.out.below hb K1.out.lt)
  clear hb c0 l0
  go_wp2_with (refine st_q rfl _ _ rfl (w.heap.size + 1) rfl TQ _ (mkQ e E 0 fun _ => 0) rfl K2.out rfl rfl (mkQ_one _ _ _ _) ?_; intro V3 s3)
  exact bodyPost_ret (v := .agg (mkQ e E 0 fun _ => 0)) (res_q rfl rfl s3.bk rfl) rfl ⟨rfl, B1.out.trans (s3.bel _ (by omega))⟩
/-- What is read at a place: the newest store there, or else m. -/
def rdC (cs : List Nat) (p m : Nat) : Nat := cs.foldl (fun a c => if c / 4 = p then c % 4 else a) m
theorem rdC_snoc (cs : List Nat) (c p m : Nat) : rdC (cs ++ [c]) p m = if c / 4 = p then c % 4 else rdC cs p m := by simp [rdC]
theorem rdC_lt {cs : List Nat} {p m : Nat} (hm : m < 4) : rdC cs p m < 4 := by
  unfold rdC
  induction cs generalizing m with
  | nil => exact hm
  | cons c r ih => rw [List.foldl_cons]; apply ih; split <;> omega
theorem snoc_of {α : Type} {l : List α} (h : l ≠ []) : ∃ d c, l = d ++ [c] := ⟨l.dropLast, l.getLast h, (List.dropLast_concat_getLast h).symm⟩
theorem readat_any (e : Nat) (f : Nat → Nat) (b : Nat → List Nat) (t p : Nat) (w : World) (he : Ech e) (hf : okF WS f) (hb : okB9 b 7) (ht : t < 3) (hp : p < 3) (r : Nat) (hr : Hid (rdC (b (bfi e t p)) p (f (15 + p)) = r)) :
    Calls Try.prog 77 #[QV e f b, .int .i64 t, .int .i64 p] w fun e w' => e = .returned (.int .i64 r) ∧ Below w.heap.size w w' := by
  have hk9 := bfi_lt (p := p) he ht
  obtain ⟨hc, hl⟩ := hb _ hk9
  obtain ⟨k, hk⟩ : ∃ k, bfi e t p = k := ⟨_, rfl⟩
  have BF := Lib.hid (fun v => bff_raw e (enc WS f) (mk9 b) t p (fun i => bwC (b i)) v he ht hp)
  rw [hk] at BF hk9 hc hl hr
  obtain ⟨W, hW⟩ : ∃ W, W = w.alloc (.cells (mkQ e (enc WS f) (mk9 b) fun i => bwC (b i)) TQ) := ⟨_, rfl⟩
  have bW : Below w.heap.size w W := by rw [hW]; go_grown
  have k0 : Bk W w.heap.size TQ (mkQ e (enc WS f) (mk9 b) fun i => bwC (b i)) := by rw [hW]; exact Bk.new _ _ _
  have K0 := Lib.hid k0
  have lk := k0.lt
  have EN := Lib.hid (fun v => entF fld2 hf p (show p < 3 by omega) v (f (15 + p) : Int) (Lib.hid (by simp [fL])))
  obtain ⟨cs, hcs⟩ : ∃ cs, b k = cs := ⟨_, rfl⟩
  rw [hcs] at hr hc hl
  have HCS := Lib.hid hcs
  have BW := Lib.hid bW
  have HW := Lib.hid hW
  have hki : (k : Int) < 9 := by omega
  clear hW bW k0 hf hb hcs hk
  go_enter Try.func77, Try.ntmps77
  go_wp2_with (first | (rw [← HW.out]) | (refine ld_q rfl _ rfl w.heap.size rfl TQ _ K0.out rfl ?_))
  refine (BF.out _).mono ?_
  rintro en w1 ⟨rfl, hb1⟩
  have K1 := Lib.hid (K0.out.below hb1 K0.out.lt)
  have B1 := Lib.hid (below_on BW.out hb1)
  have l1 := K1.out.lt
  have ck : w1.cell? ⟨w.heap.size, 2 + k, none⟩ = some (.int .u64 (bwC cs : Nat)) := by
    have := (K1.out.cell (2 + k)).trans (mkQ_k _ _ _ _ hk9)
    rw [HCS.out] at this
    exact this
  clear hb1 lk
  go_wp2
  clear ck
  go_loopw [7] (fun v wr => ∃ d : List Nat, w1 = wr ∧ okS d ∧ d.length ≤ 7 ∧ v = .int .u64 (bwC d : Nat) ∧ Hid (rdC d p (f (15 + p)) = r)) (fun v _ => (intOf v).toNat)
  case atStart => exact ⟨cs, rfl, hc, hl, rfl, hr⟩
  case round =>
    obtain ⟨d, rfl, hd, hdl, rfl, hrest⟩ := hrel
    clear hr
    by_cases hne : d = []
    · subst hne
      rw [bwC_nil]
      have hfin : Hid (f (15 + p) = r) := Lib.hid (by rw [← hrest.out]; rfl)
      have c1 : w1.cell? ⟨w.heap.size, 1, none⟩ = some (.int .u64 (enc WS f : Nat)) := (K1.out.cell 1).trans (mkQ_1 _ _ _ _)
      go_wp2_with fail
      refine (EN.out _).mono ?_
      rintro e w2 ⟨rfl, hb2⟩
      have B2 := below_on B1.out hb2
      clear hb2
      go_wp2
      go_ret
      exact ⟨by rw [hfin.out]; rfl, B2⟩
    · obtain ⟨d', c, rfl⟩ := snoc_of hne
      have hlt12 := hd.last
      have hld : d'.length ≤ 6 := by rw [List.length_append] at hdl; simp at hdl; omega
      have hW8 : bwC (d' ++ [c]) < 18446744073709551616 := bwC_8 hd (by omega)
      have hpos : bwC (d' ++ [c]) ≠ 0 := fun e => hne (bwC_zero.1 e)
      have LO := Lib.hid (fun v => lows_any (bwC (d' ++ [c])) v hW8 c (Lib.hid (bwC_low hd)))
      have hin := bwC_init hd
      have hsn := bwC_snoc d' c
      have hlt : bwC d' < bwC (d' ++ [c]) := by rw [hsn]; omega
      have hr2 : Hid ((if c / 4 = p then c % 4 else rdC d' p (f (15 + p))) = r) := Lib.hid (by rw [← rdC_snoc]; exact hrest.out)
      have hd' := hd.init
      obtain ⟨X, hX⟩ : ∃ X, bwC (d' ++ [c]) = X := ⟨_, rfl⟩
      rw [hX] at LO hin hlt hpos ⊢
      have hne0 : ((X : Int) != 0) = true := by simp; omega
      have hsh : (X : Int) / 2 ^ 8 = ((bwC d' : Nat) : Int) := by rw [← hin]; omega
      have hsh2 : (X : Int) / 256 = ((bwC d' : Nat) : Int) := by rw [← hin]; omega
      clear hX hsn hd hdl hrest hne hW8 hin
      by_cases he : c / 4 = p
      · have heq : (((c / 4 : Nat) : Int) == (p : Int)) = true := by rw [beq_iff_eq]; omega
        have hfin : Hid (c % 4 = r) := Lib.hid (by rw [← hr2.out, if_pos he])
        clear he
        go_wp2_with fail
        refine (LO.out _).mono ?_
        rintro e w' ⟨rfl, rfl⟩
        go_wp2
        go_ret
        exact ⟨by rw [← hfin.out]; rfl, B1.out⟩
      · have heq : (((c / 4 : Nat) : Int) == (p : Int)) = false := by rw [beq_eq_false_iff_ne]; omega
        have hfin : Hid (rdC d' p (f (15 + p)) = r) := Lib.hid (by rw [← hr2.out, if_neg he])
        clear he
        go_wp2_with fail
        refine (LO.out _).mono ?_
        rintro e w' ⟨rfl, rfl⟩
        go_wp2
        go_roundw
        case rel => exact ⟨d', by first | rfl | trivial, hd', by omega, by first | rfl | (congr 1), hfin⟩
        case measure => simp [intOf]; omega
/-- The oldest store of a buffer is done. -/
theorem takq_any (e : Nat) (f : Nat → Nat) (b : Nat → List Nat) (k : Nat) (w : World) (hf : okF WS f) (hk : k < 9) (c : Nat) (q : List Nat) (hbt : b k = c :: q) (hok : okS (c :: q)) (hl : q.length ≤ 6) :
    Calls Try.prog 162 #[QV e f b, .int .i64 k] w fun en w' => en = .returned (QV e (upd f (15 + c / 4) (c % 4)) (updB b k q)) ∧ Below w.heap.size w w' := by
  have hc12 := hok.head
  obtain ⟨W, hW⟩ : ∃ W, W = (w.alloc (.cells (mkQ e (enc WS f) (mk9 b) fun i => bwC (b i)) TQ)).alloc (.cells Z12 TQ) := ⟨_, rfl⟩
  have bW : Below w.heap.size w W := by rw [hW]; go_grown
  have k0 : Bk W w.heap.size TQ (mkQ e (enc WS f) (mk9 b) fun i => bwC (b i)) := by rw [hW]; exact (Bk.new w _ _).alloc _
  have k1 : Bk W (w.heap.size + 1) TQ Z12 := by
    rw [hW]; have := Bk.new (w.alloc (.cells (mkQ e (enc WS f) (mk9 b) fun i => bwC (b i)) TQ)) Z12 TQ
    rwa [World.size_alloc] at this
  have K0 := Lib.hid k0
  have K1 := Lib.hid k1
  have B0 := Lib.hid bW
  have HW := Lib.hid hW
  have l0 := k0.lt
  have OS := Lib.hid (fun v => olds_any c q v hok (by omega))
  have WO := Lib.hid (fun v => witho_any c q v hok (by omega))
  have WE := Lib.hid (fun v => wentF fld2 hf (c / 4) (c % 4) ((c % 4 : Nat) : Int) (show c / 4 < 3 by omega) (show c % 4 < 4 by omega) (by simp [fL]) v)
  obtain ⟨g, hg⟩ : ∃ g, upd f (15 + c / 4) (c % 4) = g := ⟨_, rfl⟩
  rw [hg] at WE ⊢
  have WB := Lib.hid (fun v => withb_any e g b k q v hk)
  have HBT := Lib.hid (show bwC (b k) = bwC (c :: q) by rw [hbt])
  have ck : W.cell? ⟨w.heap.size, 2 + k, none⟩ = some (.int .u64 (bwC (c :: q) : Nat)) := by
    have := (K0.out.cell (2 + k)).trans (mkQ_k _ _ _ _ hk)
    rw [HBT.out] at this
    exact this
  have hki : (k : Int) < 9 := by omega
  clear hW bW k0 k1 hbt hf hg
  go_enter Try.func162, Try.ntmps162
  go_wp2_with (rw [← HW.out])
  refine (OS.out _).mono ?_
  rintro en w' ⟨rfl, rfl⟩
  have c1 : W.cell? ⟨w.heap.size, 1, none⟩ = some (.int .u64 (enc WS f : Nat)) := (K0.out.cell 1).trans (mkQ_1 _ _ _ _)
  have f1 := K0.out.free 1
  clear ck
  go_wp2_with fail
  refine (WE.out _).mono ?_
  rintro en w1 ⟨rfl, hb1⟩
  have B1 := Lib.hid (below_on B0.out hb1)
  have K01 := Lib.hid (K0.out.below hb1 K0.out.lt)
  have K11 := Lib.hid (K1.out.below hb1 K1.out.lt)
  have d1 : w1.cell? ⟨w.heap.size, 1, none⟩ = some (.int .u64 (enc WS f : Nat)) := (K01.out.cell 1).trans (mkQ_1 _ _ _ _)
  have d2 := K01.out.free 1
  clear hb1 c1 f1 l0
  have l1 := K01.out.lt
  go_wp2_with fail
  obtain ⟨V1, hV⟩ : ∃ V, V = w1.setCell ⟨w.heap.size, 1, none⟩ (.int .u64 (enc WS g : Nat)) := ⟨_, rfl⟩
  rw [← hV]
  have K02 := Lib.hid (show Bk V1 w.heap.size TQ (mkQ e (enc WS g) (mk9 b) fun i => bwC (b i)) by rw [hV, ← mkQ_set1 e (enc WS f)]; exact K01.out.set 1 _)
  have K12 := Lib.hid (show Bk V1 (w.heap.size + 1) TQ Z12 by rw [hV]; exact K11.out.far (p := ⟨w.heap.size, 1, none⟩) (by show w.heap.size + 1 ≠ w.heap.size; omega) _)
  have B2 := Lib.hid (show Below w.heap.size w V1 by rw [hV]; exact B1.out.setCell (Nat.le_refl _) _)
  have l2 := K02.out.lt
  clear hV d1 d2 K01 K11 l1
  have HS := Lib.hid (fr_none V1)
  haveI hne := Nonempty.intro (Ws.mk _ (fr_none V1))
  have gk : ∀ x : Ws (Fr V1 []), x.val.cell? ⟨w.heap.size, 2 + k, none⟩ = some (.int .u64 (bwC (c :: q) : Nat)) := Ws.same (bs := []) l2 ((K02.out.cell (2 + k)).trans (by rw [mkQ_k _ _ _ _ hk, HBT.out]))
  have GK := Lib.hid (fun w' (h : In (Fr V1 []) w') => (show Bk w' w.heap.size TQ (mkQ e (enc WS g) (mk9 b) fun i => bwC (b i)) from by obtain ⟨x, rfl⟩ := h; exact K02.out.below x.ok.below l2))
  refine region_tail (C := In (Fr V1 [])) 8 (by kernel_rfl) (In.mk HS.out.drew) ?_
  simp only [List.take_succ_cons, List.take_zero, List.drop_succ_cons, List.drop_zero]
  repeat (first | (refine qd_q rfl _ rfl w.heap.size rfl TQ _ rfl GK.out ?_; simp only [Act.put, List.setIfInBounds_toArray, List.set_cons_succ, List.set_cons_zero]) | go_big_quiet_step ((first | (go_at_call 148; exact call_in ((WO.out _).mono fun e w' (h : _ ∧ _ = w') => ⟨h.1, by rw [← h.2]; exact Below.refl _ _⟩)) | (go_at_call 114; exact call_in (WB.out _)))))
  refine wpQuiet_nil ?_
  rintro _ ⟨y, rfl⟩
  have K13 := Lib.hid (K12.out.below y.ok.below K12.out.lt)
  have B3 := Lib.hid (below_on B2.out y.ok.below)
  go_wp2_with (refine st_q rfl _ _ rfl (w.heap.size + 1) rfl TQ _ (mkQ e (enc WS g) (mk9 (updB b k q)) fun i => bwC (updB b k q i)) rfl K13.out rfl rfl (mkQ_one _ _ _ _) ?_; intro V3 s3)
  exact bodyPost_ret (v := QV e g (updB b k q)) (res_q rfl rfl s3.bk rfl) rfl ⟨rfl, B3.out.trans (s3.bel _ (by omega))⟩
theorem vbit_num {x i : Nat} (hx : x < 18446744073709551616) : (bits .and .u64 ((x : Int) / 2 ^ i) 1 == 1) = x.testBit i := by
  have e : ((x : Int) / 2 ^ i) = ((x / 2 ^ i : Nat) : Int) := by simp
  have h1 : (1 : Int) = ((1 : Nat) : Int) := rfl
  rw [e, h1, and_u64 (Nat.lt_of_le_of_lt (Nat.div_le_self _ _) hx) (by omega), Nat.and_one_is_mod, Nat.testBit_eq_decide_div_mod_eq]
  rw [Bool.eq_iff_iff]
  simp
  omega
theorem vhasbit_any (x i : Nat) (w : World) (hx : x < 18446744073709551616) (hi : i < 64) (r : Bool) (hr : Hid (x.testBit i = r)) :
    Calls Try.prog 120 #[.int .u64 x, .int .i64 i] w fun e w' => e = .returned (.bool r) ∧ w = w' := by
  go_enter Try.func120, Try.ntmps120
  go_wp2
  go_ret
  refine ⟨?_, rfl⟩
  have := vbit_num (i := i) hx
  rw [hr.out] at this
  simpa using this
/-- Whether a statement is done with any buffer. -/
def weakB (x : Sm) : Bool := (x.k == 0 || x.k == 10) || ((x.k == 1 || x.k == 2) && !x.s)
theorem weak_strong {x : Sm} (h : x.okb = true) : (!x.s && (x.k == 0 || x.k == 1 || x.k == 2 || x.k == 10)) = weakB x := by
  obtain ⟨k, a, b, c, s⟩ := x
  have h : okB k a b c s = true := h
  unfold weakB
  simp only
  cases s with
  | false => cases (k == 0) <;> cases (k == 1) <;> cases (k == 2) <;> cases (k == 10) <;> rfl
  | true =>
    have : k = 1 ∨ k = 2 := by
      unfold okB at h
      by_cases h1 : k = 1
      · exact Or.inl h1
      · by_cases h2 : k = 2
        · exact Or.inr h2
        · simp [h1, h2] at h
    rcases this with rfl | rfl <;> rfl

theorem waitsb_any (x : Sm) (w : World) (r : Bool) (hr : Hid ((!weakB x) = r)) :
    Calls Try.prog 123 #[x.val] w fun e w' => e = .returned (.bool r) ∧ Below w.heap.size w w' := by
  obtain ⟨k, a, b, c, s⟩ := x
  have hr' := hr.out
  unfold weakB at hr'
  simp only at hr'
  clear hr
  by_cases h0 : k = 0
  · subst h0
    have hfin : Hid (r = false) := Lib.hid (by rw [← hr']; rfl)
    go_enter Try.func123, Try.ntmps123
    go_wp2
    go_ret
    exact ⟨by rw [hfin.out]; rfl, by go_grown⟩
  by_cases h10 : k = 10
  · subst h10
    have hfin : Hid (r = false) := Lib.hid (by rw [← hr']; rfl)
    go_enter Try.func123, Try.ntmps123
    go_wp2
    go_ret
    exact ⟨by rw [hfin.out]; rfl, by go_grown⟩
  have e0 : (k == 0) = false := by rw [beq_eq_false_iff_ne]; exact h0
  have e10 : (k == 10) = false := by rw [beq_eq_false_iff_ne]; exact h10
  by_cases h1 : k = 1
  · subst h1
    have hfin : Hid (s = r) := Lib.hid (by rw [← hr']; cases s <;> rfl)
    clear hr'
    go_enter Try.func123, Try.ntmps123
    go_wp2
    go_ret
    exact ⟨by rw [← hfin.out]; rfl, by go_grown⟩
  by_cases h2 : k = 2
  · subst h2
    have hfin : Hid (s = r) := Lib.hid (by rw [← hr']; cases s <;> rfl)
    clear hr'
    go_enter Try.func123, Try.ntmps123
    go_wp2
    go_ret
    exact ⟨by rw [← hfin.out]; rfl, by go_grown⟩
  have e1 : (k == 1) = false := by rw [beq_eq_false_iff_ne]; exact h1
  have e2 : (k == 2) = false := by rw [beq_eq_false_iff_ne]; exact h2
  have hfin : Hid (r = true) := Lib.hid (by rw [← hr', e0, e1, e2, e10]; rfl)
  clear hr'
  go_enter Try.func123, Try.ntmps123
  go_wp2
  go_ret
  exact ⟨by rw [hfin.out]; rfl, by go_grown⟩
/-- Whether a step can be done. -/
def canQ (e : Nat) (L : Pg) (f : Nat → Nat) (b : Nat → List Nat) (st : Int) : Bool :=
  if inB st L.length (((L.length * (1 + e) : Nat) : Int) - 1) then !(b (st - L.length).toNat).isEmpty
  else inB st 0 ((L.length : Int) - 1) && (canF L f st.toNat && (ownE e b st.toNat || weakB (smAt L st.toNat (f (3 + st.toNat)))))
theorem bufable_any (h : PgH) (L : Pg) (e : Nat) (f : Nat → Nat) (b : Nat → List Nat) (st : Int) (w : World) (B : Nat) (he : Ech e) (hP : PgR w B h L) (hB : B ≤ w.heap.size) (hL : progB L = true) (hf : Good L f) (hcan : ∀ t, t < L.length → f (0 + t) = bitN (canF L f t)) (r : Bool) (hr : Hid (canQ e L f b st = r)) :
    Calls Try.prog 81 #[PgV h L, QV e f b, .int .i64 st] w fun e w' => e = .returned (.bool r) ∧ Below w.heap.size w w' := by
  obtain ⟨h31, h32⟩ := prog_len hL
  obtain ⟨W, hW⟩ : ∃ W, W = (w.alloc (.cells #[.slice h.A L.length h.c] 36)).alloc (.cells (mkQ e (enc WS f) (mk9 b) fun i => bwC (b i)) TQ) := ⟨_, rfl⟩
  have bW : Below w.heap.size w W := by rw [hW]; go_grown
  have k0 : Bk W w.heap.size 36 #[.slice h.A L.length h.c] := by rw [hW]; exact (Bk.new w _ _).alloc _
  have k1 : Bk W (w.heap.size + 1) TQ (mkQ e (enc WS f) (mk9 b) fun i => bwC (b i)) := by
    rw [hW]; have := Bk.new (w.alloc (.cells #[.slice h.A L.length h.c] 36)) (mkQ e (enc WS f) (mk9 b) fun i => bwC (b i)) TQ
    rwa [World.size_alloc] at this
  have P0 := Lib.hid (hP.below bW hB)
  have K0 := Lib.hid k0
  have K1 := Lib.hid k1
  have B0 := Lib.hid bW
  have z0 := bW.size
  have HW := Lib.hid hW
  have cP : W.cell? ⟨w.heap.size, 0, none⟩ = some (.slice h.A L.length h.c) := k0.cell 0
  have lP := k0.lt
  clear hW bW k0 k1 hP
  have SC := Lib.hid (fun v => stc_raw h L e (enc WS f) (mk9 b) (fun i => bwC (b i)) v he h32)
  obtain ⟨N, hN⟩ : ∃ N, L.length * (1 + e) = N := ⟨_, rfl⟩
  have hN12 : N ≤ 12 := by rw [← hN]; rcases he with rfl | rfl <;> omega
  have hNb : ∀ u : Nat, L.length + u < N → u < 9 := by rw [← hN]; rcases he with rfl | rfl <;> omega
  unfold canQ at hr
  rw [hN] at SC hr
  clear hN
  obtain ⟨s, hs⟩ : ∃ s, inB st L.length ((N : Int) - 1) = s := ⟨_, rfl⟩
  have HS := Lib.hid hs
  have AB := Lib.hid (fun v r (hr : Hid ((inB st 0 ((L.length : Int) - 1) && (f (0 + st.toNat) == 1)) = r)) => able_any h L f st v hf.ok h31 h32 r hr)
  go_enter Try.func81, Try.ntmps81
  go_wp2_with (first | (rw [← HW.out]) | (refine ld_q rfl _ rfl (w.heap.size + 1) rfl TQ _ K1.out rfl ?_))
  refine (SC.out _).mono ?_
  rintro en w1 ⟨rfl, hb1⟩
  have B1 := Lib.hid (below_on B0.out hb1)
  have K01 := Lib.hid (K0.out.below hb1 K0.out.lt)
  have K11 := Lib.hid (K1.out.below hb1 K1.out.lt)
  have P1 := Lib.hid (P0.out.below hb1 (by omega))
  have z1 := hb1.size
  clear hb1 cP lP K0 K1 P0 SC
  go_wp2_with fail
  refine (within_b st L.length ((N : Int) - 1) _ s HS).mono ?_
  rintro en w2 ⟨rfl, rfl⟩
  have cm : w1.cell? ⟨w.heap.size + 1, 11, none⟩ = some (.int .u64 (mk9 b : Nat)) := (K11.out.cell 11).trans (mkQ_11 _ _ _ _)
  have c1 : w1.cell? ⟨w.heap.size + 1, 1, none⟩ = some (.int .u64 (enc WS f : Nat)) := (K11.out.cell 1).trans (mkQ_1 _ _ _ _)
  have cP : w1.cell? ⟨w.heap.size, 0, none⟩ = some (.slice h.A L.length h.c) := K01.out.cell 0
  have lQ := K11.out.lt
  have lP := K01.out.lt
  cases s
  rotate_left
  · obtain ⟨u, hu⟩ : ∃ u : Nat, st = (L.length : Int) + u := ⟨(st - L.length).toNat, by simp [inB] at hs; omega⟩
    have hu9 : u < 9 := hNb u (by simp [inB] at hs; omega)
    have hfin : Hid ((mk9 b).testBit u = r) := Lib.hid (by rw [mk9_bit b hu9, ← hr.out, hs, if_pos rfl, hu, show ((L.length : Int) + (u : Int) - (L.length : Int)).toNat = u by omega])
    have hsub : st - (L.length : Int) = (u : Int) := by omega
    have h9 := mk9_lt b
    have HB := Lib.hid (fun v => vhasbit_any (mk9 b) u v (by omega) (by omega) r hfin)
    clear hr hs hu
    go_wp2_with fail
    refine (HB.out _).mono ?_
    rintro en w2 ⟨rfl, rfl⟩
    go_wp2
    go_ret
    exact ⟨rfl, B1.out⟩
  have hr1 := hr.out
  rw [hs, if_neg (by simp)] at hr1
  clear hr hs
  obtain ⟨va, hva⟩ : ∃ v, (inB st 0 ((L.length : Int) - 1) && (f (0 + st.toNat) == 1)) = v := ⟨_, rfl⟩
  have HV := Lib.hid hva
  have HG := Lib.hid hf
  go_wp2_with fail
  refine (AB.out w1 va HV).mono ?_
  rintro en w2 ⟨rfl, hb2⟩
  have B2 := Lib.hid (below_on B1.out hb2)
  have K12 := Lib.hid (K11.out.below hb2 K11.out.lt)
  have K02 := Lib.hid (K01.out.below hb2 K01.out.lt)
  have P2 := Lib.hid (P1.out.below hb2 (by omega))
  have z2 := hb2.size
  clear hb2 cm c1 cP lQ lP K11 K01 P1 AB
  rcases Bool.eq_false_or_eq_true va with hv | hv
  rotate_left
  · subst hv
    have hfin : Hid (r = false) := Lib.hid (by
      rw [← hr1]
      rcases Bool.eq_false_or_eq_true (inB st 0 ((L.length : Int) - 1)) with h1 | h1
      · have hlt : st.toNat < L.length := by simp [inB] at h1; omega
        rw [h1, Bool.true_and, hcan _ hlt] at hva
        have : canF L f st.toNat = false := by cases hc : canF L f st.toNat with | false => rfl | true => rw [hc] at hva; cases hva
        rw [h1, this]; rfl
      · rw [h1]; rfl)
    clear hr1 hva hf hcan
    go_wp2
    go_ret
    exact ⟨by rw [hfin.out]; rfl, B2.out⟩
  subst hv
  have hin : inB st 0 ((L.length : Int) - 1) = true := by simp only [Bool.and_eq_true] at hva; exact hva.1
  obtain ⟨t, rfl⟩ : ∃ t : Nat, st = t := ⟨st.toNat, by simp [inB] at hin; omega⟩
  have htl : t < L.length := by simp [inB] at hin; omega
  rw [hin, Bool.true_and, Int.toNat_natCast] at hr1 hva
  have hcf : canF L f t = true := by
    rw [hcan _ htl] at hva
    cases hc : canF L f t with
    | true => rfl
    | false => rw [hc] at hva; cases hva
  rw [hcf, Bool.true_and] at hr1
  have hti : (t : Int) < (L.length : Int) := by omega
  obtain ⟨g, hg⟩ : ∃ g, mk9 b / 2 ^ (t * e) % 2 ^ e = g := ⟨_, rfl⟩
  have OM := Lib.hid (fun v => own_raw e (enc WS f) t b v he (by omega) g (Lib.hid hg))
  have hown := own_marks (t := t) b he (by omega)
  rw [hg] at hown
  clear hg hva hin hcan
  go_wp2_with (refine ldg_q rfl _ rfl (w.heap.size + 1) rfl TQ _ K12.out rfl ?_)
  refine (OM.out _).mono ?_
  rintro en w3 ⟨rfl, hb3⟩
  have B3 := Lib.hid (below_on B2.out hb3)
  have K13 := Lib.hid (K12.out.below hb3 K12.out.lt)
  have K03 := Lib.hid (K02.out.below hb3 K02.out.lt)
  have P3 := Lib.hid (P2.out.below hb3 (by omega))
  have z3 := hb3.size
  clear hb3 K12 K02 P2
  have hgi : ((g : Int) == 0) = ownE e b t := by
    rw [← hown]
    by_cases h0 : g = 0
    · subst h0; rfl
    · rw [beq_eq_false_iff_ne.2 h0, beq_eq_false_iff_ne]; omega
  clear hown
  obtain ⟨o, ho⟩ : ∃ o, ownE e b t = o := ⟨_, rfl⟩
  rw [ho] at hr1 hgi
  clear ho
  cases o
  rotate_left
  · have hfin : Hid (r = true) := Lib.hid (by rw [← hr1]; rfl)
    clear hr1 hf hcf
    go_wp2
    go_ret
    exact ⟨by rw [hfin.out]; rfl, B3.out⟩
  · have hml : f (3 + t) < (L.getD t []).length := by
      have hle := hf.at_ t L[t] (List.getElem?_eq_getElem htl)
      have hd : L.getD t [] = L[t] := getD_some (List.getElem?_eq_getElem htl)
      rw [hd]
      unfold canF at hcf
      rw [hd] at hcf
      have : f (3 + t) ≠ L[t].length := by intro e; rw [e] at hcf; simp at hcf
      omega
    rw [Bool.false_or] at hr1
    obtain ⟨x, hx⟩ : ∃ x, smAt L t (f (3 + t)) = x := ⟨_, rfl⟩
    rw [hx] at hr1
    have WB := Lib.hid (fun v => waitsb_any x v (!r) (Lib.hid (by rw [hr1])))
    have hev := Lib.hid (fun (V : World) (hP : PgR V B h L) (hB : B ≤ V.heap.size) => nextev_any h L f t V B hP hB hL HG.out htl hml)
    unfold evV at hev
    rw [hx] at hev
    have hfd := ev_stmt (t : Int) (f (3 + t) : Nat) x.k x.a x.b x.c x.s
    have cP : w3.cell? ⟨w.heap.size, 0, none⟩ = some (.slice h.A L.length h.c) := K03.out.cell 0
    have c1 : w3.cell? ⟨w.heap.size + 1, 1, none⟩ = some (.int .u64 (enc WS f : Nat)) := (K13.out.cell 1).trans (mkQ_1 _ _ _ _)
    have lQ := K13.out.lt
    have lP := K03.out.lt
    clear hr1 hf hcf hml hx
    go_wp2_with fail
    refine (hev.out w3 P3.out (by omega)).mono ?_
    rintro en w4 ⟨rfl, hb4⟩
    have B4 := Lib.hid (below_on B3.out hb4)
    clear hb4 cP c1
    go_wp2_with fail
    refine (WB.out w4).mono ?_
    rintro en w5 ⟨rfl, hb5⟩
    have B5 := Lib.hid (below_on B4.out hb5)
    clear hb5 hfd
    go_wp2
    go_ret
    exact ⟨by simp, B5.out⟩
end Go.Proofs.Ytnadihepgmbhaaa
