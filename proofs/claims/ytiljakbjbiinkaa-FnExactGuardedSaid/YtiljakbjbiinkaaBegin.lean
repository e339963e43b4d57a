/-
  Contracts of Begin, of the program and of the reference model: both hand out the same state of the program, in memory of the call's own.
-/
import Derived.Test.YtiljakbjbiinkaaWordF
import Derived.Test.YtiljakbjbiinkaaStOk
import Derived.Deep.RegionHeld3
namespace Go.Proofs.Ytiljakbjbiinkaa
open Go.RowKit Pl
set_option maxHeartbeats 2000000
set_option maxRecDepth 100000
set_option linter.unusedVariables false

def smAt (L : Pg) (t i : Nat) : Sm := (L.getD t []).getD i default
def waitF (f : Nat → Nat) (t : Nat) (x : Sm) : Bool :=
  if x.k = 6 then f (18 + x.a.toNat) != 0
  else if x.k = 7 then f (18 + x.a.toNat) != t + 1
  else if x.k = 8 then f (20 + x.a.toNat) != 0
  else if x.k = 9 then f (20 + x.b.toNat) == 0
  else false
def canF (L : Pg) (f : Nat → Nat) (t : Nat) : Bool := !(f (3 + t) == (L.getD t []).length) && !waitF f t (smAt L t (f (3 + t)))
def bitN (b : Bool) : Nat := if b then 1 else 0
def keptF (L : Pg) (f : Nat → Nat) (k : Nat) : Nat → Nat := fun p => if p < k then bitN (canF L f p) else f p
/-- The threads of a word are where threads of the program can be. -/
structure Good (L : Pg) (f : Nat → Nat) : Prop where
  ok : okF WS f
  at_ : ∀ (t : Nat) (xs : List Sm), L[t]? = some xs → f (3 + t) ≤ xs.length
theorem keptF_hi {L : Pg} {f : Nat → Nat} {k p : Nat} (hk : k ≤ 3) (hp : 3 ≤ p) : keptF L f k p = f p := by
  unfold keptF; rw [if_neg (by omega)]
theorem waitF_congr {f g : Nat → Nat} {t : Nat} {x : Sm} (h : ∀ p, 3 ≤ p → f p = g p) : waitF f t x = waitF g t x := by
  unfold waitF
  rw [h _ (by omega), h _ (by omega), h _ (by omega)]
theorem canF_congr {L : Pg} {f g : Nat → Nat} {t : Nat} (h : ∀ p, 3 ≤ p → f p = g p) : canF L f t = canF L g t := by
  unfold canF
  rw [h _ (by omega), waitF_congr h]
theorem bitN_lt (b : Bool) : bitN b < 2 := by cases b <;> simp [bitN]
theorem keptF_ok {L : Pg} {f : Nat → Nat} {k : Nat} (h : okF WS f) (hk : k ≤ 3) : okF WS (keptF L f k) := by
  refine okF_of fun p hp => ?_
  unfold keptF
  split
  · rename_i hpk
    have : ∀ p, p < 3 → wid WS p = 1 := by decide
    rw [this p (by omega)]
    exact bitN_lt _
  · exact okF_at h hp
theorem keptF_good {L : Pg} {f : Nat → Nat} {k : Nat} (h : Good L f) (hk : k ≤ 3) : Good L (keptF L f k) :=
  ⟨keptF_ok h.ok hk, fun t xs ht => by rw [keptF_hi hk (by omega)]; exact h.at_ t xs ht⟩
theorem keptF_next {L : Pg} {f : Nat → Nat} {k : Nat} : upd (keptF L f k) (0 + k) (bitN (canF L f k)) = keptF L f (k + 1) := by
  funext p
  unfold upd keptF
  by_cases h : p = 0 + k
  · subst h; rw [if_pos rfl, if_pos (by omega)]; simp
  · rw [if_neg h]
    by_cases h1 : p < k
    · rw [if_pos h1, if_pos (by omega)]
    · rw [if_neg h1, if_neg (by omega)]
theorem ok_lock {x : Sm} (h : x.okb = true) (hk : x.k = 6 ∨ x.k = 7 ∨ x.k = 8) : ∃ n : Nat, n < 2 ∧ x.a = (n : Int) := by
  obtain ⟨k, a, b, c, s⟩ := x
  simp only at hk
  have : 0 ≤ a ∧ a ≤ 1 := by
    rcases hk with rfl | rfl | rfl <;> (cases s <;> simp [Sm.okb, okB, inB] at h <;> omega)
  exact ⟨a.toNat, by omega, by simp only; omega⟩
theorem ok_get {x : Sm} (h : x.okb = true) (hk : x.k = 9) : ∃ n : Nat, n < 2 ∧ x.b = (n : Int) := by
  obtain ⟨k, a, b, c, s⟩ := x
  simp only at hk
  have : 0 ≤ b ∧ b ≤ 1 := by
    subst hk; cases s <;> simp [Sm.okb, okB, inB] at h <;> omega
  exact ⟨b.toNat, by omega, by simp only; omega⟩

theorem waits_any (f : Nat → Nat) (t : Nat) (x : Sm) (w : World) (hf : okF WS f) (ht : t < 3) (hx : x.okb = true) (r : Bool) (hr : Hid (waitF f t x = r)) :
    Calls Try.prog 185 #[.int .u64 (enc WS f : Nat), .int .i64 t, x.val] w fun e w' => e = .returned (.bool r) ∧ Below w.heap.size w w' := by
  obtain ⟨k, a, b, c, s⟩ := x
  obtain ⟨W, hW⟩ : ∃ W, W = w.alloc (.cells #[.int .i64 k, .int .i64 a, .int .i64 b, .int .i64 c, .bool s] 132) := ⟨_, rfl⟩
  have bW := Lib.hid (show Below w.heap.size w W by rw [hW]; go_grown)
  have HW := Lib.hid hW
  clear hW
  have fin : ∀ (m : Nat), m = f (18 + a.toNat) → ∀ (d : Int), True := fun _ _ _ => trivial
  clear fin
  by_cases h6 : k = 6
  · subst h6
    obtain ⟨n, hn, rfl⟩ := ok_lock hx (Or.inl rfl)
    have hr' : (f (18 + n) != 0) = r := by have := hr.out; simpa [waitF] using this
    clear hr hx
    by_cases h0 : f (18 + n) = 0
    · have HR : Hid ((f (18 + n) : Int) + fL 3 = -1) := Lib.hid (by rw [h0]; rfl)
      have hfin : Hid (r = false) := Lib.hid (by rw [← hr']; simp [h0])
      clear h0 hr'
      go_enter Try.func185, Try.ntmps185
      go_wp2_with fail
      rw [← HW.out]
      refine (entF fld3 hf n hn W _ HR).mono ?_
      rintro e w1 ⟨rfl, hb⟩
      have hB := below_on bW.out hb
      clear hb
      go_wp2
      go_ret
      exact ⟨by rw [hfin.out]; rfl, hB⟩
    · obtain ⟨q, hq⟩ := Nat.exists_eq_succ_of_ne_zero h0
      have HR : Hid ((f (18 + n) : Int) + fL 3 = (q : Int)) := Lib.hid (by rw [hq]; simp [fL]; omega)
      have hfin : Hid (r = true) := Lib.hid (by rw [← hr']; simp [h0])
      clear h0 hr' hq
      go_enter Try.func185, Try.ntmps185
      go_wp2_with fail
      rw [← HW.out]
      refine (entF fld3 hf n hn W _ HR).mono ?_
      rintro e w1 ⟨rfl, hb⟩
      have hB := below_on bW.out hb
      clear hb
      go_wp2
      go_ret
      exact ⟨by rw [hfin.out]; rfl, hB⟩
  by_cases h7 : k = 7
  · subst h7
    obtain ⟨n, hn, rfl⟩ := ok_lock hx (Or.inr (Or.inl rfl))
    have hr' : (f (18 + n) != t + 1) = r := by have := hr.out; simpa [waitF] using this
    clear hr hx h6
    by_cases h0 : f (18 + n) = t + 1
    · have HR : Hid ((f (18 + n) : Int) + fL 3 = (t : Int)) := Lib.hid (by rw [h0]; simp [fL]; omega)
      have hfin : Hid (r = false) := Lib.hid (by rw [← hr']; simp [h0])
      clear h0 hr'
      go_enter Try.func185, Try.ntmps185
      go_wp2_with fail
      rw [← HW.out]
      refine (entF fld3 hf n hn W _ HR).mono ?_
      rintro e w1 ⟨rfl, hb⟩
      have hB := below_on bW.out hb
      clear hb
      go_wp2
      go_ret
      exact ⟨by rw [hfin.out]; rfl, hB⟩
    · obtain ⟨d, hd⟩ : ∃ d : Int, (f (18 + n) : Int) + fL 3 = d := ⟨_, rfl⟩
      have hdt : (d != (t : Int)) = true := by rw [← hd]; simp [fL]; omega
      have HR := Lib.hid hd
      have hfin : Hid (r = true) := Lib.hid (by rw [← hr']; simp [h0])
      clear h0 hr' hd
      go_enter Try.func185, Try.ntmps185
      go_wp2_with fail
      rw [← HW.out]
      refine (entF fld3 hf n hn W _ HR).mono ?_
      rintro e w1 ⟨rfl, hb⟩
      have hB := below_on bW.out hb
      clear hb
      go_wp2
      go_ret
      exact ⟨by rw [hfin.out]; first | rfl | simp, hB⟩
  by_cases h8 : k = 8
  · subst h8
    obtain ⟨n, hn, rfl⟩ := ok_lock hx (Or.inr (Or.inr rfl))
    have hr' : (f (20 + n) != 0) = r := by have := hr.out; simpa [waitF] using this
    clear hr hx h6 h7
    by_cases h0 : f (20 + n) = 0
    · have HR : Hid ((f (20 + n) : Int) + fL 4 = -1) := Lib.hid (by rw [h0]; rfl)
      have hfin : Hid (r = false) := Lib.hid (by rw [← hr']; simp [h0])
      clear h0 hr'
      go_enter Try.func185, Try.ntmps185
      go_wp2_with fail
      rw [← HW.out]
      refine (entF fld4 hf n hn W _ HR).mono ?_
      rintro e w1 ⟨rfl, hb⟩
      have hB := below_on bW.out hb
      clear hb
      go_wp2
      go_ret
      exact ⟨by rw [hfin.out]; rfl, hB⟩
    · obtain ⟨q, hq⟩ := Nat.exists_eq_succ_of_ne_zero h0
      have HR : Hid ((f (20 + n) : Int) + fL 4 = (q : Int)) := Lib.hid (by rw [hq]; simp [fL]; omega)
      have hfin : Hid (r = true) := Lib.hid (by rw [← hr']; simp [h0])
      clear h0 hr' hq
      go_enter Try.func185, Try.ntmps185
      go_wp2_with fail
      rw [← HW.out]
      refine (entF fld4 hf n hn W _ HR).mono ?_
      rintro e w1 ⟨rfl, hb⟩
      have hB := below_on bW.out hb
      clear hb
      go_wp2
      go_ret
      exact ⟨by rw [hfin.out]; rfl, hB⟩
  by_cases h9 : k = 9
  · subst h9
    obtain ⟨n, hn, rfl⟩ := ok_get hx rfl
    have hr' : (f (20 + n) == 0) = r := by have := hr.out; simpa [waitF] using this
    clear hr hx h6 h7 h8
    by_cases h0 : f (20 + n) = 0
    · have HR : Hid ((f (20 + n) : Int) + fL 4 = -1) := Lib.hid (by rw [h0]; rfl)
      have hfin : Hid (r = true) := Lib.hid (by rw [← hr']; simp [h0])
      clear h0 hr'
      go_enter Try.func185, Try.ntmps185
      go_wp2_with fail
      rw [← HW.out]
      refine (entF fld4 hf n hn W _ HR).mono ?_
      rintro e w1 ⟨rfl, hb⟩
      have hB := below_on bW.out hb
      clear hb
      go_wp2
      go_ret
      exact ⟨by rw [hfin.out]; rfl, hB⟩
    · obtain ⟨q, hq⟩ := Nat.exists_eq_succ_of_ne_zero h0
      have HR : Hid ((f (20 + n) : Int) + fL 4 = (q : Int)) := Lib.hid (by rw [hq]; simp [fL]; omega)
      have hfin : Hid (r = false) := Lib.hid (by rw [← hr']; simp [h0])
      clear h0 hr' hq
      go_enter Try.func185, Try.ntmps185
      go_wp2_with fail
      rw [← HW.out]
      refine (entF fld4 hf n hn W _ HR).mono ?_
      rintro e w1 ⟨rfl, hb⟩
      have hB := below_on bW.out hb
      clear hb
      go_wp2
      go_ret
      exact ⟨by rw [hfin.out]; rfl, hB⟩
  have hfin : Hid (r = false) := Lib.hid (by rw [← hr.out]; simp [waitF, h6, h7, h8, h9])
  have k6 : (k == 6) = false := by simp [h6]
  have k7 : (k == 7) = false := by simp [h7]
  have k8 : (k == 8) = false := by simp [h8]
  have k9 : (k == 9) = false := by simp [h9]
  clear hr hx h6 h7 h8 h9
  go_enter Try.func185, Try.ntmps185
  go_wp2
  rw [← HW.out]
  go_ret
  exact ⟨by rw [hfin.out]; rfl, bW.out⟩

/-- The header of a thread of a program that memory holds. -/
theorem pg_at {w : World} {B : Nat} {h : PgH} {L : Pg} (hR : PgR w B h L) {t : Nat} (ht : t < L.length) :
    ∃ b off xs Ai ci, h.A = some ⟨b, off, none⟩ ∧ b < B ∧ L[t]? = some xs ∧ w.cell? ⟨b, off + t, none⟩ = some (.slice Ai xs.length ci) ∧ xs.length ≤ ci ∧ ci ≤ maxLen ∧ Row w B Ai xs := by
  obtain ⟨b, off, xs, Ai, ci, h1, h2, h3, _, h4, h5, h6, h7⟩ := Rows2.at_ hR ht
  exact ⟨b, off, xs, Ai, ci, h1, h2, h3, h4, h5, h6, h7⟩
theorem getD_some {α : Type} [Inhabited α] {l : List α} {i : Nat} {x d : α} (h : l[i]? = some x) : l.getD i d = x := by rw [List.getD, h]; rfl

theorem isdone_any (h : PgH) (L : Pg) (f : Nat → Nat) (t : Nat) (w : World) (B : Nat) (hR : PgR w B h L) (hB : B ≤ w.heap.size) (hL : progB L = true) (hf : Good L f) (ht : t < L.length) (r : Bool) (hr : Hid ((f (3 + t) == (L.getD t []).length) = r)) :
    Calls Try.prog 156 #[PgV h L, .int .u64 (enc WS f : Nat), .int .i64 t] w fun e w' => e = .returned (.bool r) ∧ Below w.heap.size w w' := by
  have h3 := prog_len hL
  obtain ⟨W, hW⟩ : ∃ W, W = w.alloc (.cells #[.slice h.A L.length h.c] 30) := ⟨_, rfl⟩
  have bW : Below w.heap.size w W := by rw [hW]; go_grown
  have kW : Bk W w.heap.size 30 #[.slice h.A L.length h.c] := by rw [hW]; exact Bk.new _ _ _
  obtain ⟨b, off, xs, Ai, ci, hA, hb, hx, hc, -, hmi, -⟩ := pg_at (hR.below bW hB) ht
  rw [getD_some hx] at hr
  have hle := hf.at_ t xs hx
  have hlt := fld_lt fld0 hf.ok (i := t) (by show t < 3; omega)
  have hi2 : (t : Int) < (L.length : Int) := by omega
  unfold maxLen at hmi
  have hbw : b < W.heap.size := by have := bW.size; omega
  have BW := Lib.hid bW
  have allS : ∀ w', Below W.heap.size W w' → (Below W.heap.size W w' ∧ w'.cell? ⟨w.heap.size, 0, none⟩ = some (.slice (some ⟨b, off, none⟩) L.length h.c) ∧ w'.cell? ⟨b, off + t, none⟩ = some (.slice Ai xs.length ci)) := fun w' hb' => ⟨hb', by rw [← hA]; exact (kW.below hb' kW.lt).cell 0, (hb'.cell (p := ⟨b, off + t, none⟩) hbw).trans hc⟩
  have AllS := Lib.hid allS
  have HW := Lib.hid hW
  obtain ⟨d, hd⟩ : ∃ d : Int, (f (3 + t) : Int) + fL 0 = d := ⟨_, rfl⟩
  have hdv : d = (f (3 + t) : Int) := by rw [← hd]; simp [fL]
  have HR := Lib.hid hd
  have hfin : Hid ((d == (xs.length : Int)) = r) := Lib.hid (by rw [← hr.out, hdv, Bool.eq_iff_iff]; simp; omega)
  have HE := Lib.hid (entF fld0 hf.ok t (show t < 3 by omega))
  clear allS hW kW bW hx hc hd hdv hr hle hlt hf hR hA
  go_enter Try.func156, Try.ntmps156
  go_wp2_with fail
  rw [← HW.out]
  go_region_held3 (fun w' => Below W.heap.size W w' ∧ w'.cell? ⟨w.heap.size, 0, none⟩ = some (.slice (some ⟨b, off, none⟩) L.length h.c) ∧ w'.cell? ⟨b, off + t, none⟩ = some (.slice Ai xs.length ci)) (first | (go_split_ands; exact AllS.out _ (by go_grown)) | (exact AllS.out _ (by go_grown))) (first | (go_at_call 152; go_split_ands; refine (HE.out _ _ HR).mono ?_; rintro e v1 ⟨rfl, hv⟩; have hBv : Below W.heap.size W v1 := below_on (by go_grown) hv; clear hv))
  go_wp2
  go_ret
  exact ⟨by rw [← hfin.out]; simp, below_on BW.out hBv⟩
theorem prog_thr {L : Pg} (h : progB L = true) {t : Nat} {xs : List Sm} (hx : L[t]? = some xs) : xs.length ≤ 6 ∧ ∀ (i : Nat) (x : Sm), xs[i]? = some x → x.okb = true := by
  simp only [progB, Bool.and_eq_true, decide_eq_true_eq] at h
  have h1 := List.all_eq_true.1 h.2.1 xs (List.mem_of_getElem? hx)
  simp only [thrB, Bool.and_eq_true, decide_eq_true_eq] at h1
  exact ⟨h1.1, fun i x hi => List.all_eq_true.1 h1.2 x (List.mem_of_getElem? hi)⟩

theorem kept_any (h : PgH) (L : Pg) (f : Nat → Nat) (w : World) (B : Nat) (hR : PgR w B h L) (hB : B ≤ w.heap.size) (hL : progB L = true) (hf : Good L f) :
    Calls Try.prog 161 #[PgV h L, .int .u64 (enc WS f : Nat)] w fun e w' => e = .returned (.int .u64 (enc WS (keptF L f L.length) : Nat)) ∧ Below w.heap.size w w' := by
  obtain ⟨h31, h32⟩ := prog_len hL
  obtain ⟨A, c⟩ := h
  obtain ⟨pb, po, -, -, -, hA0, -⟩ := pg_at hR (show 0 < L.length by omega)
  simp only at hA0
  subst hA0
  obtain ⟨W, hW⟩ : ∃ W, W = w.alloc (.cells #[.slice (some ⟨pb, po, none⟩) L.length c] 30) := ⟨_, rfl⟩
  have bW : Below w.heap.size w W := by rw [hW]; go_grown
  have kW : Bk W w.heap.size 30 #[.slice (some ⟨pb, po, none⟩) L.length c] := by rw [hW]; exact Bk.new _ _ _
  have RW := Lib.hid (hR.below bW hB)
  have BW := Lib.hid bW
  have KW := Lib.hid kW
  have hBW : B ≤ W.heap.size := Nat.le_trans hB bW.size
  have HW := Lib.hid hW
  have k0 : keptF L f 0 = f := by funext p; simp [keptF]
  have K0 := Lib.hid k0
  clear hW bW kW hR k0
  go_enter Try.func161, Try.ntmps161
  go_wp2
  rw [← HW.out]
  go_loopw [1, 11] (fun x i wr => ∃ k : Nat, k ≤ L.length ∧ i = .int .i64 k ∧ x = .int .u64 (enc WS (keptF L f k) : Nat) ∧ Below W.heap.size W wr) (fun _ i _ => L.length - (intOf i).toNat)
  case atStart => exact ⟨0, Nat.zero_le _, rfl, by rw [K0.out], Below.refl _ _⟩
  case round =>
    obtain ⟨k, hk, rfl, rfl, hbel⟩ := hrel
    by_cases hlt : k < L.length
    · obtain ⟨b, off, xs, Ai, ci, hA, hb, hx, hc, -, hmi, hrow⟩ := pg_at (RW.out.below hbel hBW) hlt
      obtain ⟨rfl, rfl⟩ : pb = b ∧ po = off := by injection hA with hA; injection hA with h1 h2; exact ⟨h1, h2⟩
      have hbox : wr.cell? ⟨w.heap.size, 0, none⟩ = some (.slice (some ⟨pb, po, none⟩) L.length c) := (KW.out.below hbel KW.out.lt).cell 0
      have hz := hbel.size
      have hlw := KW.out.lt
      have hbw : pb < wr.heap.size := by omega
      have hwr : w.heap.size < wr.heap.size := by omega
      have hi2 : (k : Int) < (L.length : Int) := by omega
      have hk3 : k < 3 := by omega
      have Gk := Lib.hid (keptF_good (k := k) hf (by omega))
      have hgk := keptF_hi (L := L) (f := f) (k := k) (p := 3 + k) (by omega) (by omega)
      have Hgk := Lib.hid hgk
      obtain ⟨hx6, hxok⟩ := prog_thr hL hx
      have hle := hf.at_ k xs hx
      have hd : L.getD k [] = xs := getD_some hx
      have Hd := Lib.hid hd
      have Hbel := Lib.hid hbel
      have Hrow := Lib.hid hrow
      have Hxok := Lib.hid hxok
      unfold maxLen at hmi
      have RW' := Lib.hid (RW.out.below hbel hBW)
      clear hx hd hrow hxok hgk hbel hA
      by_cases hdn : f (3 + k) = xs.length
      · have HD : Hid ((keptF L f k (3 + k) == (L.getD k []).length) = true) := Lib.hid (by rw [Hgk.out, Hd.out]; simp [hdn])
        have HC : Hid (canF L f k = false) := Lib.hid (by unfold canF; rw [Hd.out]; simp [hdn])
        clear hdn
        go_wp2_with fail
        refine (isdone_any ⟨some ⟨pb, po, none⟩, c⟩ L _ k _ B RW'.out (by omega) hL Gk.out hlt true HD).mono ?_
        rintro e w2 ⟨rfl, hb2⟩
        have HBx := Lib.hid (below_on Hbel.out hb2)
        clear hb2 hbox hc
        go_wp2_with (go_at_call 127; refine (figure_any _ _).mono ?_; rintro e w' ⟨rfl, rfl⟩)
        go_wp2_with fail
        refine (wentF fld5 Gk.out.ok k (bitN false) (bit false) hk3 (by simp [bitN, fB]) (by rfl) _).mono ?_
        rintro e w9 ⟨rfl, hb9⟩
        have HB9 := Lib.hid (below_on HBx.out hb9)
        have hstep := Lib.hid (show upd (keptF L f k) (0 + k) (bitN false) = keptF L f (k + 1) by rw [← keptF_next, HC.out])
        clear hb9
        rw [hstep.out]
        go_wp2
        go_roundw
        case rel => exact ⟨k + 1, by omega, by go_num, rfl, HB9.out⟩
        case measure => simp [intOf]; omega
      · have HD : Hid ((keptF L f k (3 + k) == (L.getD k []).length) = false) := Lib.hid (by rw [Hgk.out, Hd.out]; simp [hdn])
        obtain ⟨m, hm⟩ : ∃ m, f (3 + k) = m := ⟨_, rfl⟩
        have hml : m < xs.length := by omega
        obtain ⟨b', off', x, hAi, hb', hxm, -, -⟩ := Hrow.out.at_ hml
        have HXm := Lib.hid hxm
        have hok := Hxok.out m x hxm
        have Hsm : Hid (smAt L k m = x) := Lib.hid (by unfold smAt; rw [Hd.out]; exact getD_some hxm)
        have HE : Hid ((keptF L f k (3 + k) : Int) + fL 0 = (m : Int)) := Lib.hid (by rw [Hgk.out, hm]; simp [fL])
        have Hm := Lib.hid hm
        have him : (m : Int) < (xs.length : Int) := by omega
        clear hdn hm hxm
        subst hAi
        go_wp2_with fail
        refine (isdone_any ⟨some ⟨pb, po, none⟩, c⟩ L _ k _ B RW'.out (by omega) hL Gk.out hlt false HD).mono ?_
        rintro e w2 ⟨rfl, hb2⟩
        have Hb2 := Lib.hid (below_on Hbel.out hb2)
        have Hrow2 := Lib.hid (Hrow.out.below hb2 (by omega))
        have z2 := hb2.size
        clear hb2 hbox hc Hrow
        go_wp2_with fail
        refine (entF fld0 Gk.out.ok k hk3 _ _ HE).mono ?_
        rintro e w3 ⟨rfl, hb3⟩
        have Hb3 := Lib.hid (below_on Hb2.out hb3)
        obtain ⟨b2, off2, x2, hA2, -, hx2, -, c0, c1, c2, c3, c4⟩ := (Hrow2.out.below hb3 (by omega)).at_ hml
        obtain rfl : x = x2 := by have := HXm.out; rw [hx2] at this; injection this with this; exact this.symm
        obtain ⟨rfl, rfl⟩ : b' = b2 ∧ off' = off2 := by injection hA2 with hA2; injection hA2 with h1 h2; exact ⟨h1, h2⟩
        have z3 := hb3.size
        clear hb3 hA2 hx2
        rcases Bool.eq_false_or_eq_true (waitF (keptF L f k) k x) with hw | hw
        all_goals
          have Hwt := Lib.hid hw
          clear hw
          go_wp2_with fail
          refine (waits_any _ k x w3 Gk.out.ok hk3 hok _ Hwt).mono ?_
          rintro e w4 ⟨rfl, hb4⟩
          have HBx := Lib.hid (below_on Hb3.out hb4)
          have Hwf := Lib.hid ((waitF_congr (f := f) (g := keptF L f k) (t := k) (x := x) fun p hp => (keptF_hi (by omega) hp).symm).trans Hwt.out)
          clear hb4 c0 c1 c2 c3 c4
        · have HC : Hid (canF L f k = false) := Lib.hid (by unfold canF; rw [Hm.out, Hsm.out, Hwf.out]; simp)
          go_wp2_with (go_at_call 127; refine (figure_any _ _).mono ?_; rintro e w' ⟨rfl, rfl⟩)
          go_wp2_with fail
          refine (wentF fld5 Gk.out.ok k (bitN false) (bit false) hk3 (by simp [bitN, fB]) (by rfl) _).mono ?_
          rintro e w9 ⟨rfl, hb9⟩
          have HB9 := Lib.hid (below_on HBx.out hb9)
          have hstep := Lib.hid (show upd (keptF L f k) (0 + k) (bitN false) = keptF L f (k + 1) by rw [← keptF_next, HC.out])
          clear hb9
          rw [hstep.out]
          go_wp2
          go_roundw
          case rel => exact ⟨k + 1, by omega, by go_num, rfl, HB9.out⟩
          case measure => simp [intOf]; omega
        · have HC : Hid (canF L f k = true) := Lib.hid (by
            unfold canF; rw [Hm.out, Hsm.out, Hwf.out, Hd.out]
            have : m ≠ xs.length := by omega
            simp [this])
          go_wp2_with (go_at_call 127; refine (figure_any _ _).mono ?_; rintro e w' ⟨rfl, rfl⟩)
          go_wp2_with fail
          refine (wentF fld5 Gk.out.ok k (bitN true) (bit true) hk3 (by simp [bitN, fB]) (by rfl) _).mono ?_
          rintro e w9 ⟨rfl, hb9⟩
          have HB9 := Lib.hid (below_on HBx.out hb9)
          have hstep := Lib.hid (show upd (keptF L f k) (0 + k) (bitN true) = keptF L f (k + 1) by rw [← keptF_next, HC.out])
          clear hb9
          rw [hstep.out]
          go_wp2
          go_roundw
          case rel => exact ⟨k + 1, by omega, by go_num, rfl, HB9.out⟩
          case measure => simp [intOf]; omega
    · have hkl : k = L.length := by omega
      subst hkl
      go_wp2
      go_ret
      exact ⟨rfl, below_on BW.out hbel⟩
end Go.Proofs.Ytiljakbjbiinkaa
namespace Go.Proofs.Ytiljakbjbiinkaa
open Go.RowKit Pl
set_option maxHeartbeats 4000000
set_option maxRecDepth 100000
set_option linter.unusedVariables false

/-- A row that was made at its full length. -/
def MadeE (w : World) (vs : List Value) (N : Int) (n : Nat) (e : Ending) (w' : World) : Prop :=
  ∃ g, e = .returned (.slice (some ⟨g, 0, none⟩) n n) ∧ w.heap.size ≤ g ∧ g < w'.heap.size ∧ Below w.heap.size w w' ∧ OwnVs w' g (g + 1) 3 (some ⟨g, 0, none⟩) vs
theorem entries_made (ws : List Nat) (j b : Nat) (f : Nat → Nat) (n : Nat) (N : Int) (hN : N = (n : Int)) (F : Fld ws j b) (h : okF ws f) (hn : n ≤ fC j) (w : World) :
    Calls Try.prog 153 #[.int .u64 (enc ws f : Nat), .int .i64 j, .int .i64 N] w (MadeE w (ints (fldI f b (fL j) n)) N n) := by
  subst hN
  refine (entries_any ws j b f n w F h hn).mono ?_
  rintro e w' ⟨rfl, hc⟩
  have hc' : CopyV w w' 3 (ints (fldI f b (fL j) n)) (ints (fldI f b (fL j) n)).length := by rw [ints_length, fldI_length]; exact hc
  exact ⟨_, rfl, Nat.le_refl _, hc.lt, hc.1, hc'.done⟩

/-- The state of a word. -/
def staF (L : Pg) (f : Nat → Nat) : Sta := ⟨fldI f 3 (fL 0) L.length, fldI f 6 (fL 1) (L.length * 3), fldI f 15 (fL 2) 3, fldI f 18 (fL 3) 2, fldI f 20 (fL 4) 2⟩

theorem unpacked_any (h : PgH) (L : Pg) (f : Nat → Nat) (w : World) (hL : progB L = true) (hf : okF WS f) :
    Calls Try.prog 130 #[PgV h L, .int .u64 (enc WS f : Nat)] w (ToSta w (staF L f)) := by
  obtain ⟨h31, h32⟩ := prog_len hL
  obtain ⟨W, hW⟩ : ∃ W, W = (w.alloc (.cells #[.slice h.A L.length h.c] 30)).alloc (.cells #[.slice none 0 0, .slice none 0 0, .slice none 0 0, .slice none 0 0, .slice none 0 0] 41) := ⟨_, rfl⟩
  have bW : Below w.heap.size w W := by rw [hW]; go_grown
  have sW : W.heap.size = w.heap.size + 1 + 1 := by rw [hW]; simp
  have k0 : Bk W w.heap.size 30 #[.slice h.A L.length h.c] := by rw [hW]; exact (Bk.new w _ _).alloc _
  have k1 : Bk W (w.heap.size + 1) 41 #[.slice none 0 0, .slice none 0 0, .slice none 0 0, .slice none 0 0, .slice none 0 0] := by
    rw [hW]; have := Bk.new (w.alloc (.cells #[.slice h.A L.length h.c] 30)) #[.slice none 0 0, .slice none 0 0, .slice none 0 0, .slice none 0 0, .slice none 0 0] 41
    rwa [World.size_alloc] at this
  have cb : W.cell? ⟨w.heap.size, 0, none⟩ = some (.slice h.A L.length h.c) := k0.cell 0
  have K0 := Lib.hid k0
  have K1 := Lib.hid k1
  have BW := Lib.hid bW
  have sWa := Nat.le_of_eq sW
  have sWb := Nat.le_of_eq sW.symm
  have HW := Lib.hid hW
  generalize hE : enc WS f = E
  have HE := Lib.hid hE
  have e0 := entries_made WS 0 3 f L.length (L.length : Int) (by omega) fld0 hf (by show L.length ≤ 3; omega)
  rw [hE] at e0
  have E0 := Lib.hid e0
  clear e0
  have tok0 : True := trivial
  have e1 := entries_made WS 1 6 f (L.length * 3) ((L.length : Int) * 3) (by omega) fld1 hf (by show L.length * 3 ≤ 9; omega)
  rw [hE] at e1
  have E1 := Lib.hid e1
  clear e1
  have tok1 : True := trivial
  have e2 := entries_made WS 2 15 f 3 3 (by rfl) fld2 hf (by decide)
  rw [hE] at e2
  have E2 := Lib.hid e2
  clear e2
  have tok2 : True := trivial
  have e3 := entries_made WS 3 18 f 2 2 (by rfl) fld3 hf (by decide)
  rw [hE] at e3
  have E3 := Lib.hid e3
  clear e3
  have tok3 : True := trivial
  have e4 := entries_made WS 4 20 f 2 2 (by rfl) fld4 hf (by decide)
  rw [hE] at e4
  have E4 := Lib.hid e4
  clear e4
  have tok4 : True := trivial
  have hbw : Below w.heap.size w W := bW
  clear k0 k1 bW sW hW hE
  go_enter Try.func130, Try.ntmps130
  go_wp2_with fail
  rw [← HW.out]
  have hmul : IntKind.i64.wrap ((L.length : Int) * 3) = (L.length : Int) * 3 := wrap64_small (by omega) (by omega)
  have hmul0 : (0 : Int) ≤ (L.length : Int) * 3 := by omega
  go_region_held3 (fun w' => Below w.heap.size w w' ∧ w'.cell? ⟨w.heap.size, 0, none⟩ = some (.slice h.A L.length h.c)) (first | (refine And.intro ?_ ?_ <;> first | with_reducible assumption | (with_reducible exact hbw.drew) | (go_grown; done) | (simp [cb]; done) | (exact (((((hbw4.setCell (p := ⟨w.heap.size + 1, 0, none⟩) (show w.heap.size ≤ w.heap.size + 1 by omega) _).setCell (p := ⟨w.heap.size + 1, 1, none⟩) (show w.heap.size ≤ w.heap.size + 1 by omega) _).setCell (p := ⟨w.heap.size + 1, 2, none⟩) (show w.heap.size ≤ w.heap.size + 1 by omega) _).setCell (p := ⟨w.heap.size + 1, 3, none⟩) (show w.heap.size ≤ w.heap.size + 1 by omega) _).setCell (p := ⟨w.heap.size + 1, 4, none⟩) (show w.heap.size ≤ w.heap.size + 1 by omega) _)) | (exact ((((((K0.out.below hBv4 K0.out.lt).far (p := ⟨w.heap.size + 1, 0, none⟩) (show w.heap.size ≠ w.heap.size + 1 by omega) _).far (p := ⟨w.heap.size + 1, 1, none⟩) (show w.heap.size ≠ w.heap.size + 1 by omega) _).far (p := ⟨w.heap.size + 1, 2, none⟩) (show w.heap.size ≠ w.heap.size + 1 by omega) _).far (p := ⟨w.heap.size + 1, 3, none⟩) (show w.heap.size ≠ w.heap.size + 1 by omega) _).far (p := ⟨w.heap.size + 1, 4, none⟩) (show w.heap.size ≠ w.heap.size + 1 by omega) _).cell 0))) (first | (go_at_call 153; clear tok0; go_split_ands; refine (E0.out _).mono ?_; rintro e v0 ⟨g0, rfl, hg, hl, hv, ov⟩; have Ov0 := Lib.hid ov; have hl0 : g0 < v0.heap.size := hl; have hBv0 : Below W.heap.size W v0 := below_on ((Below.refl W.heap.size W).drew) hv; have hg0 : W.heap.size ≤ g0 := hg; have cb0 : v0.cell? ⟨w.heap.size, 0, none⟩ = some (.slice h.A L.length h.c) := (K0.out.below hBv0 K0.out.lt).cell 0; have hbw0 : Below w.heap.size w v0 := below_on BW.out hBv0; clear ov hv hg hl) | (go_at_call 153; clear tok1; go_split_ands; refine (E1.out _).mono ?_; rintro e v1 ⟨g1, rfl, hg, hl, hv, ov⟩; have Ov1 := Lib.hid ov; have hl1 : g1 < v1.heap.size := hl; have hBv1 : Below W.heap.size W v1 := below_on hBv0 hv; have hg1 : v0.heap.size ≤ g1 := hg; have hk0_1 : Below v0.heap.size v0 v1 := hv; have cb1 : v1.cell? ⟨w.heap.size, 0, none⟩ = some (.slice h.A L.length h.c) := (K0.out.below hBv1 K0.out.lt).cell 0; have hbw1 : Below w.heap.size w v1 := below_on BW.out hBv1; clear ov hv hg hl) | (go_at_call 153; clear tok2; go_split_ands; refine (E2.out _).mono ?_; rintro e v2 ⟨g2, rfl, hg, hl, hv, ov⟩; have Ov2 := Lib.hid ov; have hl2 : g2 < v2.heap.size := hl; have hBv2 : Below W.heap.size W v2 := below_on hBv1 hv; have hg2 : v1.heap.size ≤ g2 := hg; have hk0_2 : Below v0.heap.size v0 v2 := below_on hk0_1 hv; have hk1_2 : Below v1.heap.size v1 v2 := hv; have cb2 : v2.cell? ⟨w.heap.size, 0, none⟩ = some (.slice h.A L.length h.c) := (K0.out.below hBv2 K0.out.lt).cell 0; have hbw2 : Below w.heap.size w v2 := below_on BW.out hBv2; clear ov hv hg hl) | (go_at_call 153; clear tok3; go_split_ands; refine (E3.out _).mono ?_; rintro e v3 ⟨g3, rfl, hg, hl, hv, ov⟩; have Ov3 := Lib.hid ov; have hl3 : g3 < v3.heap.size := hl; have hBv3 : Below W.heap.size W v3 := below_on hBv2 hv; have hg3 : v2.heap.size ≤ g3 := hg; have hk0_3 : Below v0.heap.size v0 v3 := below_on hk0_2 hv; have hk1_3 : Below v1.heap.size v1 v3 := below_on hk1_2 hv; have hk2_3 : Below v2.heap.size v2 v3 := hv; have cb3 : v3.cell? ⟨w.heap.size, 0, none⟩ = some (.slice h.A L.length h.c) := (K0.out.below hBv3 K0.out.lt).cell 0; have hbw3 : Below w.heap.size w v3 := below_on BW.out hBv3; clear ov hv hg hl) | (go_at_call 153; clear tok4; go_split_ands; refine (E4.out _).mono ?_; rintro e v4 ⟨g4, rfl, hg, hl, hv, ov⟩; have Ov4 := Lib.hid ov; have hl4 : g4 < v4.heap.size := hl; have hBv4 : Below W.heap.size W v4 := below_on hBv3 hv; have hg4 : v3.heap.size ≤ g4 := hg; have hk0_4 : Below v0.heap.size v0 v4 := below_on hk0_3 hv; have hk1_4 : Below v1.heap.size v1 v4 := below_on hk1_3 hv; have hk2_4 : Below v2.heap.size v2 v4 := below_on hk2_3 hv; have hk3_4 : Below v3.heap.size v3 v4 := hv; have cb4 : v4.cell? ⟨w.heap.size, 0, none⟩ = some (.slice h.A L.length h.c) := (K0.out.below hBv4 K0.out.lt).cell 0; have hbw4 : Below w.heap.size w v4 := below_on BW.out hBv4; have cr0 : v4.cell? ⟨w.heap.size + 1, 0, none⟩ = some (.slice none 0 0) := (K1.out.below hBv4 K1.out.lt).cell 0; have fr0 : v4.frozen? ⟨w.heap.size + 1, 0, none⟩ = false := (K1.out.below hBv4 K1.out.lt).free 0; have cr1 : v4.cell? ⟨w.heap.size + 1, 1, none⟩ = some (.slice none 0 0) := (K1.out.below hBv4 K1.out.lt).cell 1; have fr1 : v4.frozen? ⟨w.heap.size + 1, 1, none⟩ = false := (K1.out.below hBv4 K1.out.lt).free 1; have cr2 : v4.cell? ⟨w.heap.size + 1, 2, none⟩ = some (.slice none 0 0) := (K1.out.below hBv4 K1.out.lt).cell 2; have fr2 : v4.frozen? ⟨w.heap.size + 1, 2, none⟩ = false := (K1.out.below hBv4 K1.out.lt).free 2; have cr3 : v4.cell? ⟨w.heap.size + 1, 3, none⟩ = some (.slice none 0 0) := (K1.out.below hBv4 K1.out.lt).cell 3; have fr3 : v4.frozen? ⟨w.heap.size + 1, 3, none⟩ = false := (K1.out.below hBv4 K1.out.lt).free 3; have cr4 : v4.cell? ⟨w.heap.size + 1, 4, none⟩ = some (.slice none 0 0) := (K1.out.below hBv4 K1.out.lt).cell 4; have fr4 : v4.frozen? ⟨w.heap.size + 1, 4, none⟩ = false := (K1.out.below hBv4 K1.out.lt).free 4; clear ov hv hg hl))
  clear cb cb0 cb1 cb2 cb3 cb4 cr0 cr1 cr2 cr3 cr4 fr0 fr1 fr2 fr3 fr4 hbw0 hbw1 hbw2 hbw3 hbw4 hbw
  have kF : Bk (((((v4.setCell ⟨w.heap.size + 1, 0, none⟩ (.slice (some ⟨g0, 0, none⟩) L.length L.length)).setCell ⟨w.heap.size + 1, 1, none⟩ (.slice (some ⟨g1, 0, none⟩) (L.length * 3) (L.length * 3))).setCell ⟨w.heap.size + 1, 2, none⟩ (.slice (some ⟨g2, 0, none⟩) 3 3)).setCell ⟨w.heap.size + 1, 3, none⟩ (.slice (some ⟨g3, 0, none⟩) 2 2)).setCell ⟨w.heap.size + 1, 4, none⟩ (.slice (some ⟨g4, 0, none⟩) 2 2)) (w.heap.size + 1) 41 #[.slice (some ⟨g0, 0, none⟩) L.length L.length, .slice (some ⟨g1, 0, none⟩) (L.length * 3) (L.length * 3), .slice (some ⟨g2, 0, none⟩) 3 3, .slice (some ⟨g3, 0, none⟩) 2 2, .slice (some ⟨g4, 0, none⟩) 2 2] := by
    have a0 := K1.out.below hBv4 K1.out.lt
    have a1 := a0.set 0 (.slice (some ⟨g0, 0, none⟩) L.length L.length)
    have a2 := a1.set 1 (.slice (some ⟨g1, 0, none⟩) (L.length * 3) (L.length * 3))
    have a3 := a2.set 2 (.slice (some ⟨g2, 0, none⟩) 3 3)
    have a4 := a3.set 3 (.slice (some ⟨g3, 0, none⟩) 2 2)
    have a5 := a4.set 4 (.slice (some ⟨g4, 0, none⟩) 2 2)
    simpa using a5
  have bF : Below w.heap.size w (((((v4.setCell ⟨w.heap.size + 1, 0, none⟩ (.slice (some ⟨g0, 0, none⟩) L.length L.length)).setCell ⟨w.heap.size + 1, 1, none⟩ (.slice (some ⟨g1, 0, none⟩) (L.length * 3) (L.length * 3))).setCell ⟨w.heap.size + 1, 2, none⟩ (.slice (some ⟨g2, 0, none⟩) 3 3)).setCell ⟨w.heap.size + 1, 3, none⟩ (.slice (some ⟨g3, 0, none⟩) 2 2)).setCell ⟨w.heap.size + 1, 4, none⟩ (.slice (some ⟨g4, 0, none⟩) 2 2)) := ((((((BW.out.trans (hBv4.mono (by omega))).setCell (p := ⟨w.heap.size + 1, 0, none⟩) (show w.heap.size ≤ w.heap.size + 1 by omega) _).setCell (p := ⟨w.heap.size + 1, 1, none⟩) (show w.heap.size ≤ w.heap.size + 1 by omega) _).setCell (p := ⟨w.heap.size + 1, 2, none⟩) (show w.heap.size ≤ w.heap.size + 1 by omega) _).setCell (p := ⟨w.heap.size + 1, 3, none⟩) (show w.heap.size ≤ w.heap.size + 1 by omega) _).setCell (p := ⟨w.heap.size + 1, 4, none⟩) (show w.heap.size ≤ w.heap.size + 1 by omega) _)
  have nF : ∀ q, w.heap.size + 1 < q → (((((v4.setCell ⟨w.heap.size + 1, 0, none⟩ (.slice (some ⟨g0, 0, none⟩) L.length L.length)).setCell ⟨w.heap.size + 1, 1, none⟩ (.slice (some ⟨g1, 0, none⟩) (L.length * 3) (L.length * 3))).setCell ⟨w.heap.size + 1, 2, none⟩ (.slice (some ⟨g2, 0, none⟩) 3 3)).setCell ⟨w.heap.size + 1, 3, none⟩ (.slice (some ⟨g3, 0, none⟩) 2 2)).setCell ⟨w.heap.size + 1, 4, none⟩ (.slice (some ⟨g4, 0, none⟩) 2 2)).heap[q]? = v4.heap[q]? := fun q hq => (Below.heap_setCell _ _ _ q (by show q ≠ w.heap.size + 1; omega)).trans ((Below.heap_setCell _ _ _ q (by show q ≠ w.heap.size + 1; omega)).trans ((Below.heap_setCell _ _ _ q (by show q ≠ w.heap.size + 1; omega)).trans ((Below.heap_setCell _ _ _ q (by show q ≠ w.heap.size + 1; omega)).trans (Below.heap_setCell _ _ _ q (by show q ≠ w.heap.size + 1; omega)))))
  have zF : v4.heap.size ≤ (((((v4.setCell ⟨w.heap.size + 1, 0, none⟩ (.slice (some ⟨g0, 0, none⟩) L.length L.length)).setCell ⟨w.heap.size + 1, 1, none⟩ (.slice (some ⟨g1, 0, none⟩) (L.length * 3) (L.length * 3))).setCell ⟨w.heap.size + 1, 2, none⟩ (.slice (some ⟨g2, 0, none⟩) 3 3)).setCell ⟨w.heap.size + 1, 3, none⟩ (.slice (some ⟨g3, 0, none⟩) 2 2)).setCell ⟨w.heap.size + 1, 4, none⟩ (.slice (some ⟨g4, 0, none⟩) 2 2)).heap.size := by simp
  have HF := Lib.hid kF
  have BF := Lib.hid bF
  have NF := Lib.hid nF
  obtain ⟨F, hF⟩ : ∃ F, F = (((((v4.setCell ⟨w.heap.size + 1, 0, none⟩ (.slice (some ⟨g0, 0, none⟩) L.length L.length)).setCell ⟨w.heap.size + 1, 1, none⟩ (.slice (some ⟨g1, 0, none⟩) (L.length * 3) (L.length * 3))).setCell ⟨w.heap.size + 1, 2, none⟩ (.slice (some ⟨g2, 0, none⟩) 3 3)).setCell ⟨w.heap.size + 1, 3, none⟩ (.slice (some ⟨g3, 0, none⟩) 2 2)).setCell ⟨w.heap.size + 1, 4, none⟩ (.slice (some ⟨g4, 0, none⟩) 2 2)) := ⟨_, rfl⟩
  rw [← hF] at HF BF NF zF
  rw [← hF]
  clear kF bF nF hF
  have c0 := HF.out.cell 0
  have c1 := HF.out.cell 1
  have c2 := HF.out.cell 2
  have c3 := HF.out.cell 3
  have c4 := HF.out.cell 4
  simp only [List.getElem?_toArray, List.getElem?_cons_zero, List.getElem?_cons_succ] at c0 c1 c2 c3 c4
  have zk0 := hk0_1.size
  have zk1 := hk1_2.size
  have zk2 := hk2_3.size
  have zk3 := hk3_4.size
  have O0 := Lib.hid ((Ov0.out.below hk0_4 (by omega)).keep (lo' := w.heap.size) (hi' := F.heap.size) (by omega) (by omega) fun q h1 h2 => NF.out q (by omega))
  have O1 := Lib.hid ((Ov1.out.below hk1_4 (by omega)).keep (lo' := w.heap.size) (hi' := F.heap.size) (by omega) (by omega) fun q h1 h2 => NF.out q (by omega))
  have O2 := Lib.hid ((Ov2.out.below hk2_4 (by omega)).keep (lo' := w.heap.size) (hi' := F.heap.size) (by omega) (by omega) fun q h1 h2 => NF.out q (by omega))
  have O3 := Lib.hid ((Ov3.out.below hk3_4 (by omega)).keep (lo' := w.heap.size) (hi' := F.heap.size) (by omega) (by omega) fun q h1 h2 => NF.out q (by omega))
  have O4 := Lib.hid (Ov4.out.keep (lo' := w.heap.size) (hi' := F.heap.size) (by omega) (by omega) fun q h1 h2 => NF.out q (by omega))
  go_wp2
  refine bodyPost_ret (v := .agg #[.slice (some ⟨g0, 0, none⟩) L.length L.length, .slice (some ⟨g1, 0, none⟩) (L.length * 3) (L.length * 3), .slice (some ⟨g2, 0, none⟩) 3 3, .slice (some ⟨g3, 0, none⟩) 2 2, .slice (some ⟨g4, 0, none⟩) 2 2]) (by simp [results, Try.results130, c0, c1, c2, c3, c4, go_sem]) rfl ?_
  refine ⟨⟨some ⟨g0, 0, none⟩, some ⟨g1, 0, none⟩, some ⟨g2, 0, none⟩, some ⟨g3, 0, none⟩, some ⟨g4, 0, none⟩, L.length, (L.length * 3), 3, 2, 2⟩, ?_, BF.out, by omega, O0.out, O1.out, O2.out, O3.out, O4.out, fun _ _ e => by injection e with e; injection e with e; omega, fun _ _ e => by injection e with e; injection e with e; omega, fun _ _ e => by injection e with e; injection e with e; omega, fun _ _ e => by injection e with e; injection e with e; omega, fun _ _ e => by injection e with e; injection e with e; omega, fun _ _ e => by injection e with e; injection e with e; omega, fun _ _ e => by injection e with e; injection e with e; omega, fun _ _ e => by injection e with e; injection e with e; omega, fun _ _ e => by injection e with e; injection e with e; omega, fun _ _ e => by injection e with e; injection e with e; omega⟩
  simp only [staF, StaV, fldI_length]
end Go.Proofs.Ytiljakbjbiinkaa
namespace Go.Proofs.Ytiljakbjbiinkaa
open Go.RowKit Pl
set_option maxHeartbeats 4000000
set_option maxRecDepth 100000
set_option linter.unusedVariables false

theorem InVs.keepZ {w w' : World} {lo hi lo' hi' : Nat} {A : Option Addr} {vs : List Value} (h : InVs w lo hi A vs) (hl : lo' ≤ lo) (hh : hi ≤ hi') (hk : ∀ i, lo ≤ i → i < hi → w'.heap[i]? = w.heap[i]?) : InVs w' lo' hi' A vs := h.keep hl hh hk
def begS (L : Pg) : Sta := ⟨List.replicate L.length 0, List.replicate (L.length * 3) 0, List.replicate 3 0, List.replicate 2 (-1), List.replicate 2 (-1)⟩
def begE (L : Pg) : Sta := if progB L then begS L else StaE
def zeroF : Nat → Nat := fun _ => 0
theorem zeroF_ok : okF WS zeroF := okF_of fun p hp => by unfold zeroF; exact Nat.two_pow_pos _
theorem zeroF_enc : enc WS zeroF = 0 := by decide
theorem zeroF_good (L : Pg) : Good L zeroF := ⟨zeroF_ok, fun t xs _ => Nat.zero_le _⟩
theorem fldI_zero {f : Nat → Nat} {b : Nat} {l : Int} {n : Nat} (h : ∀ i, i < n → f (b + i) = 0) : fldI f b l n = List.replicate n l := by
  apply List.ext_getElem?
  intro i
  by_cases hi : i < n
  · rw [fldI_at hi, h i hi]; simp [hi]
  · rw [List.getElem?_eq_none (by rw [fldI_length]; omega), List.getElem?_eq_none (by simp; omega)]
theorem staF_beg (L : Pg) (h3 : L.length ≤ 3) : staF L (keptF L zeroF L.length) = begS L := by
  have e : ∀ p, 3 ≤ p → keptF L zeroF L.length p = 0 := fun p hp => keptF_hi (by omega) hp
  unfold staF begS
  rw [fldI_zero fun i _ => e _ (by omega), fldI_zero fun i _ => e _ (by omega), fldI_zero fun i _ => e _ (by omega), fldI_zero fun i _ => e _ (by omega), fldI_zero fun i _ => e _ (by omega)]
  rfl
theorem begword_any (h : PgH) (L : Pg) (w : World) (B : Nat) (hR : PgR w B h L) (hB : B ≤ w.heap.size) (hL : progB L = true) :
    Calls Try.prog 106 #[PgV h L] w fun e w' => e = .returned (.int .u64 (enc WS (keptF L zeroF L.length) : Nat)) ∧ Below w.heap.size w w' := by
  obtain ⟨W, hW⟩ : ∃ W, W = w.alloc (.cells #[.slice h.A L.length h.c] 30) := ⟨_, rfl⟩
  have bW : Below w.heap.size w W := by rw [hW]; go_grown
  have P := Lib.hid (hR.below bW hB)
  have BW := Lib.hid bW
  have hz := bW.size
  have HW := Lib.hid hW
  have key := kept_any h L zeroF W B P.out (by omega) hL (zeroF_good L)
  rw [zeroF_enc] at key
  have Key := Lib.hid key
  clear hW bW hR key
  go_enter Try.func106, Try.ntmps106
  go_wp2_with fail
  rw [← HW.out]
  refine Key.out.mono ?_
  rintro e w1 ⟨rfl, hb⟩
  have hB1 := below_on BW.out hb
  clear hb
  go_wp2
  go_ret
  exact ⟨rfl, hB1⟩

theorem fill_any (n : Int) (m : Nat) (N : Int) (hN : N = (m : Int)) (w : World) (hm : m ≤ 1000) :
    Calls Try.prog 119 #[.int .i64 n, .int .i64 N] w (MadeI w (List.replicate m n)) := by
  subst hN
  obtain ⟨i0, hi, iz0, iz1, iz2⟩ := info_parts Try.info3
  have start : Hid ((w.alloc (.cells #[] 3)).ownsRow w.heap.size 3 1 (.slice (some ⟨w.heap.size, 0, none⟩) 0 0) 0 (ints (List.replicate 0 n))) := Lib.hid (World.ownsRow_made w #[] 0 (Nat.le_refl _) (by decide) (by simp))
  go_enter Try.func119, Try.ntmps119
  go_wp2
  go_loopw [5, 6] (fun v i wr => ∃ k g cap : Nat, k ≤ m ∧ i = .int .i64 k ∧ v = .slice (some ⟨g, 0, none⟩) k cap ∧ w.heap.size ≤ g ∧ wr.ownsRow w.heap.size 3 1 (.slice (some ⟨g, 0, none⟩) k cap) k (ints (List.replicate k n)) ∧ Below w.heap.size w wr) (fun _ i _ => m - (intOf i).toNat)
  case atStart => exact ⟨0, _, 0, Nat.zero_le _, rfl, rfl, Nat.le_refl _, start.out, (Below.refl _ _).alloc (Nat.le_refl _) _⟩
  case round =>
    obtain ⟨k, g, cap, hk, rfl, rfl, hgg, hown, hbel⟩ := hrel
    clear start
    have hz := hbel.size
    by_cases hlt : k < m
    · have Hx : Hid (ints (List.replicate (k + 1) n) = ints (List.replicate k n) ++ [.int .i64 n]) := Lib.hid (by simp [ints, List.replicate_succ'])
      have Hown := Lib.hid hown
      have Hb := Lib.hid hbel
      clear hown hbel
      go_wp2_with (at_builtin; refine wpList_append_own _ rfl (.tmp 13) (.tmp 15) 39 rfl w.heap.size 3 i0 _ 1 8 Try.underlying39 hi iz0 iz1 iz2 rfl (by decide) _ k _ rfl (Hown.out.alloc _) ⟨_, 0, none⟩ 1 1 [.int .i64 _] rfl rfl (cell1_new _ _ _) (by intro u hu; simp at hu; subst hu; rfl) (by unfold maxLen; omega) (by omega) (by simp; omega) ?_; intro v' w3 own3 grow3 _; obtain ⟨g3, cap3, rfl, hg3, hlt3⟩ := own3.form (by omega); have Own3 := Lib.hid own3; have B3 := Lib.hid ((Hb.out.alloc hz _).grown grow3 (by simp; omega) (by intro q hq; cases hq; exact hgg)); clear own3 grow3)
      go_roundw
      case rel => exact ⟨k + 1, g3, cap3, by omega, by go_num, rfl, hg3, by rw [Hx.out]; exact Own3.out, B3.out⟩
      case measure => simp [intOf]; omega
    · have hkl : k = m := by omega
      subst hkl
      have Hown := Lib.hid hown
      clear hown
      go_wp2
      go_ret
      obtain ⟨h1, h2⟩ := own_cap Hown.out
      exact ⟨g, cap, by simp, by simpa using h1, h2, hgg, hbel, own_vs Hown.out rfl⟩

theorem sbegin0_any (h : PgH) (L : Pg) (w : World) (h31 : 1 ≤ L.length) (h32 : L.length ≤ 3) :
    Calls Try.prog 55 #[PgV h L] w fun e w' => ∃ k, e = .returned (StaV k (begS L)) ∧ Below w.heap.size w w' ∧ w.heap.size ≤ w'.heap.size ∧ StaI w' w.heap.size w'.heap.size k (begS L) := by
  obtain ⟨W, hW⟩ : ∃ W, W = (w.alloc (.cells #[.slice h.A L.length h.c] 30)).alloc (.cells #[.slice none 0 0, .slice none 0 0, .slice none 0 0, .slice none 0 0, .slice none 0 0] 41) := ⟨_, rfl⟩
  have bW : Below w.heap.size w W := by rw [hW]; go_grown
  have sW : W.heap.size = w.heap.size + 1 + 1 := by rw [hW]; simp
  have k1 : Bk W (w.heap.size + 1) 41 #[.slice none 0 0, .slice none 0 0, .slice none 0 0, .slice none 0 0, .slice none 0 0] := by
    rw [hW]; have := Bk.new (w.alloc (.cells #[.slice h.A L.length h.c] 30)) #[.slice none 0 0, .slice none 0 0, .slice none 0 0, .slice none 0 0, .slice none 0 0] 41
    rwa [World.size_alloc] at this
  have K1 := Lib.hid k1
  have BW := Lib.hid bW
  have sWa := Nat.le_of_eq sW
  have sWb := Nat.le_of_eq sW.symm
  have HW := Lib.hid hW
  clear k1 bW sW hW
  go_enter Try.func55, Try.ntmps55
  go_wp2_with fail
  rw [← HW.out]
  refine (fill_any 0 L.length _ (by omega) W (by omega)).mono ?_
  rintro e v0 ⟨g0, d0, rfl, -, -, hg, hb, ov⟩
  have Bv0 := Lib.hid (hb)
  have zv0 := hb.size
  have Ov0 := Lib.hid (ov.in_.keep (lo' := W.heap.size) (hi' := v0.heap.size) (by omega) (Nat.le_refl _) fun _ _ _ => rfl)
  clear hb ov hg
  go_wp2_with fail
  refine (fill_any 0 (L.length * 3) _ (by omega) v0 (by omega)).mono ?_
  rintro e v1 ⟨g1, d1, rfl, -, -, hg, hb, ov⟩
  have Bv1 := Lib.hid (below_on Bv0.out hb)
  have zv1 := hb.size
  have On0 := Lib.hid (Ov0.out.below hb (by omega))
  clear Ov0
  have Ov0 := On0
  clear On0
  have Ov1 := Lib.hid (ov.in_.keep (lo' := W.heap.size) (hi' := v1.heap.size) (by omega) (Nat.le_refl _) fun _ _ _ => rfl)
  clear hb ov hg
  go_wp2_with fail
  refine (fill_any 0 3 _ rfl v1 (by omega)).mono ?_
  rintro e v2 ⟨g2, d2, rfl, -, -, hg, hb, ov⟩
  have Bv2 := Lib.hid (below_on Bv1.out hb)
  have zv2 := hb.size
  have On0 := Lib.hid (Ov0.out.below hb (by omega))
  clear Ov0
  have Ov0 := On0
  clear On0
  have On1 := Lib.hid (Ov1.out.below hb (by omega))
  clear Ov1
  have Ov1 := On1
  clear On1
  have Ov2 := Lib.hid (ov.in_.keep (lo' := W.heap.size) (hi' := v2.heap.size) (by omega) (Nat.le_refl _) fun _ _ _ => rfl)
  clear hb ov hg
  go_wp2_with fail
  refine (fill_any (-1) 2 _ rfl v2 (by omega)).mono ?_
  rintro e v3 ⟨g3, d3, rfl, -, -, hg, hb, ov⟩
  have Bv3 := Lib.hid (below_on Bv2.out hb)
  have zv3 := hb.size
  have On0 := Lib.hid (Ov0.out.below hb (by omega))
  clear Ov0
  have Ov0 := On0
  clear On0
  have On1 := Lib.hid (Ov1.out.below hb (by omega))
  clear Ov1
  have Ov1 := On1
  clear On1
  have On2 := Lib.hid (Ov2.out.below hb (by omega))
  clear Ov2
  have Ov2 := On2
  clear On2
  have Ov3 := Lib.hid (ov.in_.keep (lo' := W.heap.size) (hi' := v3.heap.size) (by omega) (Nat.le_refl _) fun _ _ _ => rfl)
  clear hb ov hg
  go_wp2_with fail
  refine (fill_any (-1) 2 _ rfl v3 (by omega)).mono ?_
  rintro e v4 ⟨g4, d4, rfl, -, -, hg, hb, ov⟩
  have Bv4 := Lib.hid (below_on Bv3.out hb)
  have zv4 := hb.size
  have On0 := Lib.hid (Ov0.out.below hb (by omega))
  clear Ov0
  have Ov0 := On0
  clear On0
  have On1 := Lib.hid (Ov1.out.below hb (by omega))
  clear Ov1
  have Ov1 := On1
  clear On1
  have On2 := Lib.hid (Ov2.out.below hb (by omega))
  clear Ov2
  have Ov2 := On2
  clear On2
  have On3 := Lib.hid (Ov3.out.below hb (by omega))
  clear Ov3
  have Ov3 := On3
  clear On3
  have Ov4 := Lib.hid (ov.in_.keep (lo' := W.heap.size) (hi' := v4.heap.size) (by omega) (Nat.le_refl _) fun _ _ _ => rfl)
  clear hb ov hg
  have cr0 : v4.cell? ⟨w.heap.size + 1, 0, none⟩ = some (.slice none 0 0) := (K1.out.below Bv4.out K1.out.lt).cell 0
  have fr0 : v4.frozen? ⟨w.heap.size + 1, 0, none⟩ = false := (K1.out.below Bv4.out K1.out.lt).free 0
  have cr1 : v4.cell? ⟨w.heap.size + 1, 1, none⟩ = some (.slice none 0 0) := (K1.out.below Bv4.out K1.out.lt).cell 1
  have fr1 : v4.frozen? ⟨w.heap.size + 1, 1, none⟩ = false := (K1.out.below Bv4.out K1.out.lt).free 1
  have cr2 : v4.cell? ⟨w.heap.size + 1, 2, none⟩ = some (.slice none 0 0) := (K1.out.below Bv4.out K1.out.lt).cell 2
  have fr2 : v4.frozen? ⟨w.heap.size + 1, 2, none⟩ = false := (K1.out.below Bv4.out K1.out.lt).free 2
  have cr3 : v4.cell? ⟨w.heap.size + 1, 3, none⟩ = some (.slice none 0 0) := (K1.out.below Bv4.out K1.out.lt).cell 3
  have fr3 : v4.frozen? ⟨w.heap.size + 1, 3, none⟩ = false := (K1.out.below Bv4.out K1.out.lt).free 3
  have cr4 : v4.cell? ⟨w.heap.size + 1, 4, none⟩ = some (.slice none 0 0) := (K1.out.below Bv4.out K1.out.lt).cell 4
  have fr4 : v4.frozen? ⟨w.heap.size + 1, 4, none⟩ = false := (K1.out.below Bv4.out K1.out.lt).free 4
  go_wp2_with fail
  clear cr0 fr0 cr1 fr1 cr2 fr2 cr3 fr3 cr4 fr4
  have kF : Bk (((((v4.setCell ⟨w.heap.size + 1, 0, none⟩ (.slice (some ⟨g0, 0, none⟩) L.length d0)).setCell ⟨w.heap.size + 1, 1, none⟩ (.slice (some ⟨g1, 0, none⟩) (L.length * 3) d1)).setCell ⟨w.heap.size + 1, 2, none⟩ (.slice (some ⟨g2, 0, none⟩) 3 d2)).setCell ⟨w.heap.size + 1, 3, none⟩ (.slice (some ⟨g3, 0, none⟩) 2 d3)).setCell ⟨w.heap.size + 1, 4, none⟩ (.slice (some ⟨g4, 0, none⟩) 2 d4)) (w.heap.size + 1) 41 #[.slice (some ⟨g0, 0, none⟩) L.length d0, .slice (some ⟨g1, 0, none⟩) (L.length * 3) d1, .slice (some ⟨g2, 0, none⟩) 3 d2, .slice (some ⟨g3, 0, none⟩) 2 d3, .slice (some ⟨g4, 0, none⟩) 2 d4] := by
    have a0 := (K1.out.below Bv4.out K1.out.lt)
    have a1 := a0.set 0 (.slice (some ⟨g0, 0, none⟩) L.length d0)
    have a2 := a1.set 1 (.slice (some ⟨g1, 0, none⟩) (L.length * 3) d1)
    have a3 := a2.set 2 (.slice (some ⟨g2, 0, none⟩) 3 d2)
    have a4 := a3.set 3 (.slice (some ⟨g3, 0, none⟩) 2 d3)
    have a5 := a4.set 4 (.slice (some ⟨g4, 0, none⟩) 2 d4)
    simpa using a5
  have bF : Below w.heap.size w (((((v4.setCell ⟨w.heap.size + 1, 0, none⟩ (.slice (some ⟨g0, 0, none⟩) L.length d0)).setCell ⟨w.heap.size + 1, 1, none⟩ (.slice (some ⟨g1, 0, none⟩) (L.length * 3) d1)).setCell ⟨w.heap.size + 1, 2, none⟩ (.slice (some ⟨g2, 0, none⟩) 3 d2)).setCell ⟨w.heap.size + 1, 3, none⟩ (.slice (some ⟨g3, 0, none⟩) 2 d3)).setCell ⟨w.heap.size + 1, 4, none⟩ (.slice (some ⟨g4, 0, none⟩) 2 d4)) := ((((((BW.out.trans (Bv4.out.mono (by omega))).setCell (p := ⟨w.heap.size + 1, 0, none⟩) (show w.heap.size ≤ w.heap.size + 1 by omega) _).setCell (p := ⟨w.heap.size + 1, 1, none⟩) (show w.heap.size ≤ w.heap.size + 1 by omega) _).setCell (p := ⟨w.heap.size + 1, 2, none⟩) (show w.heap.size ≤ w.heap.size + 1 by omega) _).setCell (p := ⟨w.heap.size + 1, 3, none⟩) (show w.heap.size ≤ w.heap.size + 1 by omega) _).setCell (p := ⟨w.heap.size + 1, 4, none⟩) (show w.heap.size ≤ w.heap.size + 1 by omega) _)
  have nF : ∀ q, w.heap.size + 1 < q → (((((v4.setCell ⟨w.heap.size + 1, 0, none⟩ (.slice (some ⟨g0, 0, none⟩) L.length d0)).setCell ⟨w.heap.size + 1, 1, none⟩ (.slice (some ⟨g1, 0, none⟩) (L.length * 3) d1)).setCell ⟨w.heap.size + 1, 2, none⟩ (.slice (some ⟨g2, 0, none⟩) 3 d2)).setCell ⟨w.heap.size + 1, 3, none⟩ (.slice (some ⟨g3, 0, none⟩) 2 d3)).setCell ⟨w.heap.size + 1, 4, none⟩ (.slice (some ⟨g4, 0, none⟩) 2 d4)).heap[q]? = v4.heap[q]? := fun q hq => (Below.heap_setCell _ _ _ q (by show q ≠ w.heap.size + 1; omega)).trans ((Below.heap_setCell _ _ _ q (by show q ≠ w.heap.size + 1; omega)).trans ((Below.heap_setCell _ _ _ q (by show q ≠ w.heap.size + 1; omega)).trans ((Below.heap_setCell _ _ _ q (by show q ≠ w.heap.size + 1; omega)).trans (Below.heap_setCell _ _ _ q (by show q ≠ w.heap.size + 1; omega)))))
  have zF : v4.heap.size ≤ (((((v4.setCell ⟨w.heap.size + 1, 0, none⟩ (.slice (some ⟨g0, 0, none⟩) L.length d0)).setCell ⟨w.heap.size + 1, 1, none⟩ (.slice (some ⟨g1, 0, none⟩) (L.length * 3) d1)).setCell ⟨w.heap.size + 1, 2, none⟩ (.slice (some ⟨g2, 0, none⟩) 3 d2)).setCell ⟨w.heap.size + 1, 3, none⟩ (.slice (some ⟨g3, 0, none⟩) 2 d3)).setCell ⟨w.heap.size + 1, 4, none⟩ (.slice (some ⟨g4, 0, none⟩) 2 d4)).heap.size := by simp
  have HF := Lib.hid kF
  have BF := Lib.hid bF
  have NF := Lib.hid nF
  obtain ⟨F, hF⟩ : ∃ F, F = (((((v4.setCell ⟨w.heap.size + 1, 0, none⟩ (.slice (some ⟨g0, 0, none⟩) L.length d0)).setCell ⟨w.heap.size + 1, 1, none⟩ (.slice (some ⟨g1, 0, none⟩) (L.length * 3) d1)).setCell ⟨w.heap.size + 1, 2, none⟩ (.slice (some ⟨g2, 0, none⟩) 3 d2)).setCell ⟨w.heap.size + 1, 3, none⟩ (.slice (some ⟨g3, 0, none⟩) 2 d3)).setCell ⟨w.heap.size + 1, 4, none⟩ (.slice (some ⟨g4, 0, none⟩) 2 d4)) := ⟨_, rfl⟩
  rw [← hF] at HF BF NF zF
  rw [← hF]
  clear kF bF nF hF
  have c0 := HF.out.cell 0
  have c1 := HF.out.cell 1
  have c2 := HF.out.cell 2
  have c3 := HF.out.cell 3
  have c4 := HF.out.cell 4
  simp only [List.getElem?_toArray, List.getElem?_cons_zero, List.getElem?_cons_succ] at c0 c1 c2 c3 c4
  refine bodyPost_ret (v := .agg #[.slice (some ⟨g0, 0, none⟩) L.length d0, .slice (some ⟨g1, 0, none⟩) (L.length * 3) d1, .slice (some ⟨g2, 0, none⟩) 3 d2, .slice (some ⟨g3, 0, none⟩) 2 d3, .slice (some ⟨g4, 0, none⟩) 2 d4]) (by simp [results, Try.results55, c0, c1, c2, c3, c4, go_sem]) rfl ?_
  refine ⟨⟨some ⟨g0, 0, none⟩, some ⟨g1, 0, none⟩, some ⟨g2, 0, none⟩, some ⟨g3, 0, none⟩, some ⟨g4, 0, none⟩, d0, d1, d2, d3, d4⟩, by simp only [StaV, begS, List.length_replicate], BF.out, by omega, Ov0.out.keepZ (by omega) (by omega) fun q h1 h2 => NF.out q (by omega), Ov1.out.keepZ (by omega) (by omega) fun q h1 h2 => NF.out q (by omega), Ov2.out.keepZ (by omega) (by omega) fun q h1 h2 => NF.out q (by omega), Ov3.out.keepZ (by omega) (by omega) fun q h1 h2 => NF.out q (by omega), Ov4.out.keepZ (by omega) (by omega) fun q h1 h2 => NF.out q (by omega)⟩
end Go.Proofs.Ytiljakbjbiinkaa
