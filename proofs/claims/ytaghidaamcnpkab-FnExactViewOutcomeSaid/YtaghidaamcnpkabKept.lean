/-
  What the program's isDone, waits, kept, beginWord and able come to, of words by the function that tells their numbers.
-/
import Derived.Test.YtaghidaamcnpkabRowT
import Derived.Test.YtaghidaamcnpkabNums
import Derived.Deep.RegionHeld3
namespace Go.Proofs.Ytaghidaamcnpkab
open Go.RowKit Pl
set_option maxHeartbeats 2000000
set_option maxRecDepth 100000
set_option linter.unusedVariables false

def smAt (L : Pg) (t i : Nat) : Sm := (L.getD t []).getD i default
def waitF (f : Nat → Nat) (t : Nat) (x : Sm) : Bool :=
  if x.k = 6 then f (18 + x.a.toNat) != 0
  else if x.k = 7 then f (18 + x.a.toNat) != t + 1
  else if x.k = 8 then f (20 + x.a.toNat) != 0
  else if x.k = 9 then f (20 + x.b.toNat) == 0
  else false
def canF (L : Pg) (f : Nat → Nat) (t : Nat) : Bool := !(f (3 + t) == (L.getD t []).length) && !waitF f t (smAt L t (f (3 + t)))
def bitN (b : Bool) : Nat := if b then 1 else 0
def keptF (L : Pg) (f : Nat → Nat) (k : Nat) : Nat → Nat := fun p => if p < k then bitN (canF L f p) else f p
/-- The threads of a word are where threads of the program can be. -/
structure Good (L : Pg) (f : Nat → Nat) : Prop where
  ok : okF WS f
  at_ : ∀ (t : Nat) (xs : List Sm), L[t]? = some xs → f (3 + t) ≤ xs.length
theorem keptF_hi {L : Pg} {f : Nat → Nat} {k p : Nat} (hk : k ≤ 3) (hp : 3 ≤ p) : keptF L f k p = f p := by
  unfold keptF; rw [if_neg (by omega)]
theorem waitF_congr {f g : Nat → Nat} {t : Nat} {x : Sm} (h : ∀ p, 3 ≤ p → f p = g p) : waitF f t x = waitF g t x := by
  unfold waitF
  rw [h _ (by omega), h _ (by omega), h _ (by omega)]
theorem canF_congr {L : Pg} {f g : Nat → Nat} {t : Nat} (h : ∀ p, 3 ≤ p → f p = g p) : canF L f t = canF L g t := by
  unfold canF
  rw [h _ (by omega), waitF_congr h]
theorem bitN_lt (b : Bool) : bitN b < 2 := by cases b <;> simp [bitN]
theorem keptF_ok {L : Pg} {f : Nat → Nat} {k : Nat} (h : okF WS f) (hk : k ≤ 3) : okF WS (keptF L f k) := by
  refine okF_of fun p hp => ?_
  unfold keptF
  split
  · rename_i hpk
    have : ∀ p, p < 3 → wid WS p = 1 := by decide
    rw [this p (by omega)]
    exact bitN_lt _
  · exact okF_at h hp
theorem keptF_good {L : Pg} {f : Nat → Nat} {k : Nat} (h : Good L f) (hk : k ≤ 3) : Good L (keptF L f k) :=
  ⟨keptF_ok h.ok hk, fun t xs ht => by rw [keptF_hi hk (by omega)]; exact h.at_ t xs ht⟩
theorem keptF_next {L : Pg} {f : Nat → Nat} {k : Nat} : upd (keptF L f k) (0 + k) (bitN (canF L f k)) = keptF L f (k + 1) := by
  funext p
  unfold upd keptF
  by_cases h : p = 0 + k
  · subst h; rw [if_pos rfl, if_pos (by omega)]; simp
  · rw [if_neg h]
    by_cases h1 : p < k
    · rw [if_pos h1, if_pos (by omega)]
    · rw [if_neg h1, if_neg (by omega)]
theorem ok_lock {x : Sm} (h : x.okb = true) (hk : x.k = 6 ∨ x.k = 7 ∨ x.k = 8) : ∃ n : Nat, n < 2 ∧ x.a = (n : Int) := by
  obtain ⟨k, a, b, c, s⟩ := x
  simp only at hk
  have : 0 ≤ a ∧ a ≤ 1 := by
    rcases hk with rfl | rfl | rfl <;> (cases s <;> simp [Sm.okb, okB, inB] at h <;> omega)
  exact ⟨a.toNat, by omega, by simp only; omega⟩
theorem ok_get {x : Sm} (h : x.okb = true) (hk : x.k = 9) : ∃ n : Nat, n < 2 ∧ x.b = (n : Int) := by
  obtain ⟨k, a, b, c, s⟩ := x
  simp only at hk
  have : 0 ≤ b ∧ b ≤ 1 := by
    subst hk; cases s <;> simp [Sm.okb, okB, inB] at h <;> omega
  exact ⟨b.toNat, by omega, by simp only; omega⟩

theorem waits_any (f : Nat → Nat) (t : Nat) (x : Sm) (w : World) (hf : okF WS f) (ht : t < 3) (hx : x.okb = true) (r : Bool) (hr : Hid (waitF f t x = r)) :
    Calls Try.prog 143 #[.int .u64 (enc WS f : Nat), .int .i64 t, x.val] w fun e w' => e = .returned (.bool r) ∧ Below w.heap.size w w' := by
  obtain ⟨k, a, b, c, s⟩ := x
  obtain ⟨W, hW⟩ : ∃ W, W = w.alloc (.cells #[.int .i64 k, .int .i64 a, .int .i64 b, .int .i64 c, .bool s] 107) := ⟨_, rfl⟩
  have bW := Lib.hid (show Below w.heap.size w W by rw [hW]; go_grown)
  have HW := Lib.hid hW
  clear hW
  have fin : ∀ (m : Nat), m = f (18 + a.toNat) → ∀ (d : Int), True := fun _ _ _ => trivial
  clear fin
  by_cases h6 : k = 6
  · subst h6
    obtain ⟨n, hn, rfl⟩ := ok_lock hx (Or.inl rfl)
    have hr' : (f (18 + n) != 0) = r := by have := hr.out; simpa [waitF] using this
    clear hr hx
    by_cases h0 : f (18 + n) = 0
    · have HR : Hid ((f (18 + n) : Int) + fL 3 = -1) := Lib.hid (by rw [h0]; rfl)
      have hfin : Hid (r = false) := Lib.hid (by rw [← hr']; simp [h0])
      clear h0 hr'
      go_enter Try.func143, Try.ntmps143
      go_wp2_with fail
      rw [← HW.out]
      refine (entF fld3 hf n hn W _ HR).mono ?_
      rintro e w1 ⟨rfl, hb⟩
      have hB := below_on bW.out hb
      clear hb
      go_wp2
      go_ret
      exact ⟨by rw [hfin.out]; rfl, hB⟩
    · obtain ⟨q, hq⟩ := Nat.exists_eq_succ_of_ne_zero h0
      have HR : Hid ((f (18 + n) : Int) + fL 3 = (q : Int)) := Lib.hid (by rw [hq]; simp [fL]; omega)
      have hfin : Hid (r = true) := Lib.hid (by rw [← hr']; simp [h0])
      clear h0 hr' hq
      go_enter Try.func143, Try.ntmps143
      go_wp2_with fail
      rw [← HW.out]
      refine (entF fld3 hf n hn W _ HR).mono ?_
      rintro e w1 ⟨rfl, hb⟩
      have hB := below_on bW.out hb
      clear hb
      go_wp2
      go_ret
      exact ⟨by rw [hfin.out]; rfl, hB⟩
  by_cases h7 : k = 7
  · subst h7
    obtain ⟨n, hn, rfl⟩ := ok_lock hx (Or.inr (Or.inl rfl))
    have hr' : (f (18 + n) != t + 1) = r := by have := hr.out; simpa [waitF] using this
    clear hr hx h6
    by_cases h0 : f (18 + n) = t + 1
    · have HR : Hid ((f (18 + n) : Int) + fL 3 = (t : Int)) := Lib.hid (by rw [h0]; simp [fL]; omega)
      have hfin : Hid (r = false) := Lib.hid (by rw [← hr']; simp [h0])
      clear h0 hr'
      go_enter Try.func143, Try.ntmps143
      go_wp2_with fail
      rw [← HW.out]
      refine (entF fld3 hf n hn W _ HR).mono ?_
      rintro e w1 ⟨rfl, hb⟩
      have hB := below_on bW.out hb
      clear hb
      go_wp2
      go_ret
      exact ⟨by rw [hfin.out]; rfl, hB⟩
    · obtain ⟨d, hd⟩ : ∃ d : Int, (f (18 + n) : Int) + fL 3 = d := ⟨_, rfl⟩
      have hdt : (d != (t : Int)) = true := by rw [← hd]; simp [fL]; omega
      have HR := Lib.hid hd
      have hfin : Hid (r = true) := Lib.hid (by rw [← hr']; simp [h0])
      clear h0 hr' hd
      go_enter Try.func143, Try.ntmps143
      go_wp2_with fail
      rw [← HW.out]
      refine (entF fld3 hf n hn W _ HR).mono ?_
      rintro e w1 ⟨rfl, hb⟩
      have hB := below_on bW.out hb
      clear hb
      go_wp2
      go_ret
      exact ⟨by rw [hfin.out]; first | rfl | simp, hB⟩
  by_cases h8 : k = 8
  · subst h8
    obtain ⟨n, hn, rfl⟩ := ok_lock hx (Or.inr (Or.inr rfl))
    have hr' : (f (20 + n) != 0) = r := by have := hr.out; simpa [waitF] using this
    clear hr hx h6 h7
    by_cases h0 : f (20 + n) = 0
    · have HR : Hid ((f (20 + n) : Int) + fL 4 = -1) := Lib.hid (by rw [h0]; rfl)
      have hfin : Hid (r = false) := Lib.hid (by rw [← hr']; simp [h0])
      clear h0 hr'
      go_enter Try.func143, Try.ntmps143
      go_wp2_with fail
      rw [← HW.out]
      refine (entF fld4 hf n hn W _ HR).mono ?_
      rintro e w1 ⟨rfl, hb⟩
      have hB := below_on bW.out hb
      clear hb
      go_wp2
      go_ret
      exact ⟨by rw [hfin.out]; rfl, hB⟩
    · obtain ⟨q, hq⟩ := Nat.exists_eq_succ_of_ne_zero h0
      have HR : Hid ((f (20 + n) : Int) + fL 4 = (q : Int)) := Lib.hid (by rw [hq]; simp [fL]; omega)
      have hfin : Hid (r = true) := Lib.hid (by rw [← hr']; simp [h0])
      clear h0 hr' hq
      go_enter Try.func143, Try.ntmps143
      go_wp2_with fail
      rw [← HW.out]
      refine (entF fld4 hf n hn W _ HR).mono ?_
      rintro e w1 ⟨rfl, hb⟩
      have hB := below_on bW.out hb
      clear hb
      go_wp2
      go_ret
      exact ⟨by rw [hfin.out]; rfl, hB⟩
  by_cases h9 : k = 9
  · subst h9
    obtain ⟨n, hn, rfl⟩ := ok_get hx rfl
    have hr' : (f (20 + n) == 0) = r := by have := hr.out; simpa [waitF] using this
    clear hr hx h6 h7 h8
    by_cases h0 : f (20 + n) = 0
    · have HR : Hid ((f (20 + n) : Int) + fL 4 = -1) := Lib.hid (by rw [h0]; rfl)
      have hfin : Hid (r = true) := Lib.hid (by rw [← hr']; simp [h0])
      clear h0 hr'
      go_enter Try.func143, Try.ntmps143
      go_wp2_with fail
      rw [← HW.out]
      refine (entF fld4 hf n hn W _ HR).mono ?_
      rintro e w1 ⟨rfl, hb⟩
      have hB := below_on bW.out hb
      clear hb
      go_wp2
      go_ret
      exact ⟨by rw [hfin.out]; rfl, hB⟩
    · obtain ⟨q, hq⟩ := Nat.exists_eq_succ_of_ne_zero h0
      have HR : Hid ((f (20 + n) : Int) + fL 4 = (q : Int)) := Lib.hid (by rw [hq]; simp [fL]; omega)
      have hfin : Hid (r = false) := Lib.hid (by rw [← hr']; simp [h0])
      clear h0 hr' hq
      go_enter Try.func143, Try.ntmps143
      go_wp2_with fail
      rw [← HW.out]
      refine (entF fld4 hf n hn W _ HR).mono ?_
      rintro e w1 ⟨rfl, hb⟩
      have hB := below_on bW.out hb
      clear hb
      go_wp2
      go_ret
      exact ⟨by rw [hfin.out]; rfl, hB⟩
  have hfin : Hid (r = false) := Lib.hid (by rw [← hr.out]; simp [waitF, h6, h7, h8, h9])
  have k6 : (k == 6) = false := by simp [h6]
  have k7 : (k == 7) = false := by simp [h7]
  have k8 : (k == 8) = false := by simp [h8]
  have k9 : (k == 9) = false := by simp [h9]
  clear hr hx h6 h7 h8 h9
  go_enter Try.func143, Try.ntmps143
  go_wp2
  rw [← HW.out]
  go_ret
  exact ⟨by rw [hfin.out]; rfl, bW.out⟩

/-- The header of a thread of a program that memory holds. -/
theorem pg_at {w : World} {B : Nat} {h : PgH} {L : Pg} (hR : PgR w B h L) {t : Nat} (ht : t < L.length) :
    ∃ b off xs Ai ci, h.A = some ⟨b, off, none⟩ ∧ b < B ∧ L[t]? = some xs ∧ w.cell? ⟨b, off + t, none⟩ = some (.slice Ai xs.length ci) ∧ xs.length ≤ ci ∧ ci ≤ maxLen ∧ Row w B Ai xs := by
  obtain ⟨b, off, xs, Ai, ci, h1, h2, h3, _, h4, h5, h6, h7⟩ := Rows2.at_ hR ht
  exact ⟨b, off, xs, Ai, ci, h1, h2, h3, h4, h5, h6, h7⟩
theorem getD_some {α : Type} [Inhabited α] {l : List α} {i : Nat} {x d : α} (h : l[i]? = some x) : l.getD i d = x := by rw [List.getD, h]; rfl

theorem isdone_any (h : PgH) (L : Pg) (f : Nat → Nat) (t : Nat) (w : World) (B : Nat) (hR : PgR w B h L) (hB : B ≤ w.heap.size) (hL : progB L = true) (hf : Good L f) (ht : t < L.length) (r : Bool) (hr : Hid ((f (3 + t) == (L.getD t []).length) = r)) :
    Calls Try.prog 109 #[PgV h L, .int .u64 (enc WS f : Nat), .int .i64 t] w fun e w' => e = .returned (.bool r) ∧ Below w.heap.size w w' := by
  have h3 := prog_len hL
  obtain ⟨W, hW⟩ : ∃ W, W = w.alloc (.cells #[.slice h.A L.length h.c] 32) := ⟨_, rfl⟩
  have bW : Below w.heap.size w W := by rw [hW]; go_grown
  have kW : Bk W w.heap.size 32 #[.slice h.A L.length h.c] := by rw [hW]; exact Bk.new _ _ _
  obtain ⟨b, off, xs, Ai, ci, hA, hb, hx, hc, -, hmi, -⟩ := pg_at (hR.below bW hB) ht
  rw [getD_some hx] at hr
  have hle := hf.at_ t xs hx
  have hlt := fld_lt fld0 hf.ok (i := t) (by show t < 3; omega)
  have hi2 : (t : Int) < (L.length : Int) := by omega
  unfold maxLen at hmi
  have hbw : b < W.heap.size := by have := bW.size; omega
  have BW := Lib.hid bW
  have allS : ∀ w', Below W.heap.size W w' → (Below W.heap.size W w' ∧ w'.cell? ⟨w.heap.size, 0, none⟩ = some (.slice (some ⟨b, off, none⟩) L.length h.c) ∧ w'.cell? ⟨b, off + t, none⟩ = some (.slice Ai xs.length ci)) := fun w' hb' => ⟨hb', by rw [← hA]; exact (kW.below hb' kW.lt).cell 0, (hb'.cell (p := ⟨b, off + t, none⟩) hbw).trans hc⟩
  have AllS := Lib.hid allS
  have HW := Lib.hid hW
  obtain ⟨d, hd⟩ : ∃ d : Int, (f (3 + t) : Int) + fL 0 = d := ⟨_, rfl⟩
  have hdv : d = (f (3 + t) : Int) := by rw [← hd]; simp [fL]
  have HR := Lib.hid hd
  have hfin : Hid ((d == (xs.length : Int)) = r) := Lib.hid (by rw [← hr.out, hdv, Bool.eq_iff_iff]; simp; omega)
  have HE := Lib.hid (entF fld0 hf.ok t (show t < 3 by omega))
  clear allS hW kW bW hx hc hd hdv hr hle hlt hf hR hA
  go_enter Try.func109, Try.ntmps109
  go_wp2_with fail
  rw [← HW.out]
  go_region_held3 (fun w' => Below W.heap.size W w' ∧ w'.cell? ⟨w.heap.size, 0, none⟩ = some (.slice (some ⟨b, off, none⟩) L.length h.c) ∧ w'.cell? ⟨b, off + t, none⟩ = some (.slice Ai xs.length ci)) (first | (go_split_ands; exact AllS.out _ (by go_grown)) | (exact AllS.out _ (by go_grown))) (first | (go_at_call 104; go_split_ands; refine (HE.out _ _ HR).mono ?_; rintro e v1 ⟨rfl, hv⟩; have hBv : Below W.heap.size W v1 := below_on (by go_grown) hv; clear hv))
  go_wp2
  go_ret
  exact ⟨by rw [← hfin.out]; simp, below_on BW.out hBv⟩
theorem prog_thr {L : Pg} (h : progB L = true) {t : Nat} {xs : List Sm} (hx : L[t]? = some xs) : xs.length ≤ 6 ∧ ∀ (i : Nat) (x : Sm), xs[i]? = some x → x.okb = true := by
  simp only [progB, Bool.and_eq_true, decide_eq_true_eq] at h
  have h1 := List.all_eq_true.1 h.2.1 xs (List.mem_of_getElem? hx)
  simp only [thrB, Bool.and_eq_true, decide_eq_true_eq] at h1
  exact ⟨h1.1, fun i x hi => List.all_eq_true.1 h1.2 x (List.mem_of_getElem? hi)⟩

theorem kept_any (h : PgH) (L : Pg) (f : Nat → Nat) (w : World) (B : Nat) (hR : PgR w B h L) (hB : B ≤ w.heap.size) (hL : progB L = true) (hf : Good L f) :
    Calls Try.prog 118 #[PgV h L, .int .u64 (enc WS f : Nat)] w fun e w' => e = .returned (.int .u64 (enc WS (keptF L f L.length) : Nat)) ∧ Below w.heap.size w w' := by
  obtain ⟨h31, h32⟩ := prog_len hL
  obtain ⟨A, c⟩ := h
  obtain ⟨pb, po, -, -, -, hA0, -⟩ := pg_at hR (show 0 < L.length by omega)
  simp only at hA0
  subst hA0
  obtain ⟨W, hW⟩ : ∃ W, W = w.alloc (.cells #[.slice (some ⟨pb, po, none⟩) L.length c] 32) := ⟨_, rfl⟩
  have bW : Below w.heap.size w W := by rw [hW]; go_grown
  have kW : Bk W w.heap.size 32 #[.slice (some ⟨pb, po, none⟩) L.length c] := by rw [hW]; exact Bk.new _ _ _
  have RW := Lib.hid (hR.below bW hB)
  have BW := Lib.hid bW
  have KW := Lib.hid kW
  have hBW : B ≤ W.heap.size := Nat.le_trans hB bW.size
  have HW := Lib.hid hW
  have k0 : keptF L f 0 = f := by funext p; simp [keptF]
  have K0 := Lib.hid k0
  clear hW bW kW hR k0
  go_enter Try.func118, Try.ntmps118
  go_wp2
  rw [← HW.out]
  go_loopw [1, 11] (fun x i wr => ∃ k : Nat, k ≤ L.length ∧ i = .int .i64 k ∧ x = .int .u64 (enc WS (keptF L f k) : Nat) ∧ Below W.heap.size W wr) (fun _ i _ => L.length - (intOf i).toNat)
  case atStart => exact ⟨0, Nat.zero_le _, rfl, by rw [K0.out], Below.refl _ _⟩
  case round =>
    obtain ⟨k, hk, rfl, rfl, hbel⟩ := hrel
    by_cases hlt : k < L.length
    · obtain ⟨b, off, xs, Ai, ci, hA, hb, hx, hc, -, hmi, hrow⟩ := pg_at (RW.out.below hbel hBW) hlt
      obtain ⟨rfl, rfl⟩ : pb = b ∧ po = off := by injection hA with hA; injection hA with h1 h2; exact ⟨h1, h2⟩
      have hbox : wr.cell? ⟨w.heap.size, 0, none⟩ = some (.slice (some ⟨pb, po, none⟩) L.length c) := (KW.out.below hbel KW.out.lt).cell 0
      have hz := hbel.size
      have hlw := KW.out.lt
      have hbw : pb < wr.heap.size := by omega
      have hwr : w.heap.size < wr.heap.size := by omega
      have hi2 : (k : Int) < (L.length : Int) := by omega
      have hk3 : k < 3 := by omega
      have Gk := Lib.hid (keptF_good (k := k) hf (by omega))
      have hgk := keptF_hi (L := L) (f := f) (k := k) (p := 3 + k) (by omega) (by omega)
      have Hgk := Lib.hid hgk
      obtain ⟨hx6, hxok⟩ := prog_thr hL hx
      have hle := hf.at_ k xs hx
      have hd : L.getD k [] = xs := getD_some hx
      have Hd := Lib.hid hd
      have Hbel := Lib.hid hbel
      have Hrow := Lib.hid hrow
      have Hxok := Lib.hid hxok
      unfold maxLen at hmi
      have RW' := Lib.hid (RW.out.below hbel hBW)
      clear hx hd hrow hxok hgk hbel hA
      by_cases hdn : f (3 + k) = xs.length
      · have HD : Hid ((keptF L f k (3 + k) == (L.getD k []).length) = true) := Lib.hid (by rw [Hgk.out, Hd.out]; simp [hdn])
        have HC : Hid (canF L f k = false) := Lib.hid (by unfold canF; rw [Hd.out]; simp [hdn])
        clear hdn
        go_wp2_with fail
        refine (isdone_any ⟨some ⟨pb, po, none⟩, c⟩ L _ k _ B RW'.out (by omega) hL Gk.out hlt true HD).mono ?_
        rintro e w2 ⟨rfl, hb2⟩
        have HBx := Lib.hid (below_on Hbel.out hb2)
        clear hb2 hbox hc
        go_wp2_with (go_at_call 108; refine (figure_any _ _).mono ?_; rintro e w' ⟨rfl, rfl⟩)
        go_wp2_with fail
        refine (wentF fld5 Gk.out.ok k (bitN false) (bit false) hk3 (by simp [bitN, fB]) (by rfl) _).mono ?_
        rintro e w9 ⟨rfl, hb9⟩
        have HB9 := Lib.hid (below_on HBx.out hb9)
        have hstep := Lib.hid (show upd (keptF L f k) (0 + k) (bitN false) = keptF L f (k + 1) by rw [← keptF_next, HC.out])
        clear hb9
        rw [hstep.out]
        go_wp2
        go_roundw
        case rel => exact ⟨k + 1, by omega, by go_num, rfl, HB9.out⟩
        case measure => simp [intOf]; omega
      · have HD : Hid ((keptF L f k (3 + k) == (L.getD k []).length) = false) := Lib.hid (by rw [Hgk.out, Hd.out]; simp [hdn])
        obtain ⟨m, hm⟩ : ∃ m, f (3 + k) = m := ⟨_, rfl⟩
        have hml : m < xs.length := by omega
        obtain ⟨b', off', x, hAi, hb', hxm, -, -⟩ := Hrow.out.at_ hml
        have HXm := Lib.hid hxm
        have hok := Hxok.out m x hxm
        have Hsm : Hid (smAt L k m = x) := Lib.hid (by unfold smAt; rw [Hd.out]; exact getD_some hxm)
        have HE : Hid ((keptF L f k (3 + k) : Int) + fL 0 = (m : Int)) := Lib.hid (by rw [Hgk.out, hm]; simp [fL])
        have Hm := Lib.hid hm
        have him : (m : Int) < (xs.length : Int) := by omega
        clear hdn hm hxm
        subst hAi
        go_wp2_with fail
        refine (isdone_any ⟨some ⟨pb, po, none⟩, c⟩ L _ k _ B RW'.out (by omega) hL Gk.out hlt false HD).mono ?_
        rintro e w2 ⟨rfl, hb2⟩
        have Hb2 := Lib.hid (below_on Hbel.out hb2)
        have Hrow2 := Lib.hid (Hrow.out.below hb2 (by omega))
        have z2 := hb2.size
        clear hb2 hbox hc Hrow
        go_wp2_with fail
        refine (entF fld0 Gk.out.ok k hk3 _ _ HE).mono ?_
        rintro e w3 ⟨rfl, hb3⟩
        have Hb3 := Lib.hid (below_on Hb2.out hb3)
        obtain ⟨b2, off2, x2, hA2, -, hx2, -, c0, c1, c2, c3, c4⟩ := (Hrow2.out.below hb3 (by omega)).at_ hml
        obtain rfl : x = x2 := by have := HXm.out; rw [hx2] at this; injection this with this; exact this.symm
        obtain ⟨rfl, rfl⟩ : b' = b2 ∧ off' = off2 := by injection hA2 with hA2; injection hA2 with h1 h2; exact ⟨h1, h2⟩
        have z3 := hb3.size
        clear hb3 hA2 hx2
        rcases Bool.eq_false_or_eq_true (waitF (keptF L f k) k x) with hw | hw
        all_goals
          have Hwt := Lib.hid hw
          clear hw
          go_wp2_with fail
          refine (waits_any _ k x w3 Gk.out.ok hk3 hok _ Hwt).mono ?_
          rintro e w4 ⟨rfl, hb4⟩
          have HBx := Lib.hid (below_on Hb3.out hb4)
          have Hwf := Lib.hid ((waitF_congr (f := f) (g := keptF L f k) (t := k) (x := x) fun p hp => (keptF_hi (by omega) hp).symm).trans Hwt.out)
          clear hb4 c0 c1 c2 c3 c4
        · have HC : Hid (canF L f k = false) := Lib.hid (by unfold canF; rw [Hm.out, Hsm.out, Hwf.out]; simp)
          go_wp2_with (go_at_call 108; refine (figure_any _ _).mono ?_; rintro e w' ⟨rfl, rfl⟩)
          go_wp2_with fail
          refine (wentF fld5 Gk.out.ok k (bitN false) (bit false) hk3 (by simp [bitN, fB]) (by rfl) _).mono ?_
          rintro e w9 ⟨rfl, hb9⟩
          have HB9 := Lib.hid (below_on HBx.out hb9)
          have hstep := Lib.hid (show upd (keptF L f k) (0 + k) (bitN false) = keptF L f (k + 1) by rw [← keptF_next, HC.out])
          clear hb9
          rw [hstep.out]
          go_wp2
          go_roundw
          case rel => exact ⟨k + 1, by omega, by go_num, rfl, HB9.out⟩
          case measure => simp [intOf]; omega
        · have HC : Hid (canF L f k = true) := Lib.hid (by
            unfold canF; rw [Hm.out, Hsm.out, Hwf.out, Hd.out]
            have : m ≠ xs.length := by omega
            simp [this])
          go_wp2_with (go_at_call 108; refine (figure_any _ _).mono ?_; rintro e w' ⟨rfl, rfl⟩)
          go_wp2_with fail
          refine (wentF fld5 Gk.out.ok k (bitN true) (bit true) hk3 (by simp [bitN, fB]) (by rfl) _).mono ?_
          rintro e w9 ⟨rfl, hb9⟩
          have HB9 := Lib.hid (below_on HBx.out hb9)
          have hstep := Lib.hid (show upd (keptF L f k) (0 + k) (bitN true) = keptF L f (k + 1) by rw [← keptF_next, HC.out])
          clear hb9
          rw [hstep.out]
          go_wp2
          go_roundw
          case rel => exact ⟨k + 1, by omega, by go_num, rfl, HB9.out⟩
          case measure => simp [intOf]; omega
    · have hkl : k = L.length := by omega
      subst hkl
      go_wp2
      go_ret
      exact ⟨rfl, below_on BW.out hbel⟩
end Go.Proofs.Ytaghidaamcnpkab
