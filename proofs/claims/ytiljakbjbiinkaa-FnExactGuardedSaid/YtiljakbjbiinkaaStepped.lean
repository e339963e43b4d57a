/-
  What the program's nextAt and stepped come to.
-/
import Derived.Test.YtiljakbjbiinkaaPack
import Derived.Deep.QuietTactic
import Derived.BigQuiet
import Derived.Deep.DeepCutAuto
namespace Go.Proofs.Ytiljakbjbiinkaa
open Go.RowKit Pl Go.BigFrame
set_option maxHeartbeats 2000000
set_option maxRecDepth 100000
set_option linter.unusedVariables false

theorem reg_any (f : Nat → Nat) (t r : Nat) (w : World) (hf : okF WS f) (ht : t < 3) (hr : r < 3) (v : Nat) (hv : Hid (f (6 + (t * 3 + r)) = v)) :
    Calls Try.prog 196 #[.int .u64 (enc WS f : Nat), .int .i64 t, .int .i64 r] w fun e w' => e = .returned (.int .i64 v) ∧ Below w.heap.size w w' := by
  have HE := Lib.hid (entF fld1 hf (t * 3 + r) (show t * 3 + r < 9 by omega) w (v : Int) (Lib.hid (by rw [hv.out]; simp [fL])))
  have e : ((t : Int) * 3 + (r : Int)) = ((t * 3 + r : Nat) : Int) := by omega
  have HEq := Lib.hid e
  clear e
  go_enter Try.func196, Try.ntmps196
  go_wp2_with fail
  rw [HEq.out]
  refine HE.out.mono ?_
  rintro e w1 ⟨rfl, hb⟩
  go_wp2
  go_ret
  exact ⟨rfl, hb⟩
theorem wreg_any (f : Nat → Nat) (t r v : Nat) (w : World) (hf : okF WS f) (ht : t < 3) (hr : r < 3) (hv : v < 4) :
    Calls Try.prog 194 #[.int .u64 (enc WS f : Nat), .int .i64 t, .int .i64 r, .int .i64 v] w fun e w' => e = .returned (.int .u64 (enc WS (upd f (6 + (t * 3 + r)) v) : Nat)) ∧ Below w.heap.size w w' := by
  have HE := Lib.hid (wentF fld1 hf (t * 3 + r) v (v : Int) (show t * 3 + r < 9 by omega) (show v < 4 by omega) (by simp [fL]) w)
  have e : ((t : Int) * 3 + (r : Int)) = ((t * 3 + r : Nat) : Int) := by omega
  have HEq := Lib.hid e
  clear e
  go_enter Try.func194, Try.ntmps194
  go_wp2_with fail
  rw [HEq.out]
  refine HE.out.mono ?_
  rintro e w1 ⟨rfl, hb⟩
  go_wp2
  go_ret
  exact ⟨rfl, hb⟩
/-- A sum of a thread. -/
def sumF (f : Nat → Nat) (t : Nat) (b c : Int) : Nat := if b = -1 then c.toNat else (f (6 + (t * 3 + b.toNat)) + c.toNat) % 4
theorem reg_lt {f : Nat → Nat} (hf : okF WS f) {t r : Nat} (ht : t < 3) (hr : r < 3) : f (6 + (t * 3 + r)) < 4 := fld_lt fld1 hf (i := t * 3 + r) (show t * 3 + r < 9 by omega)
theorem mem_lt {f : Nat → Nat} (hf : okF WS f) {i : Nat} (hi : i < 3) : f (15 + i) < 4 := fld_lt fld2 hf hi
theorem val_parts {b c : Int} (h : valB b c = true) : (-1 ≤ b ∧ b ≤ 2) ∧ 0 ≤ c ∧ c ≤ 3 := by
  simpa [valB, inB] using h
theorem sumF_lt {f : Nat → Nat} {t : Nat} {b c : Int} (h : valB b c = true) : sumF f t b c < 4 := by
  have := val_parts h
  unfold sumF
  split <;> omega
theorem sum_any (f : Nat → Nat) (t : Nat) (b c : Int) (w : World) (hf : okF WS f) (ht : t < 3) (h : valB b c = true) (v : Nat) (hv : Hid (sumF f t b c = v)) :
    Calls Try.prog 195 #[.int .u64 (enc WS f : Nat), .int .i64 t, .int .i64 b, .int .i64 c] w fun e w' => e = .returned (.int .i64 v) ∧ Below w.heap.size w w' := by
  obtain ⟨⟨h1, h2⟩, h3, h4⟩ := val_parts h
  obtain ⟨c, rfl⟩ := Int.eq_ofNat_of_zero_le h3
  by_cases hb : b = -1
  · subst hb
    have hfin : Hid (c = v) := Lib.hid (by rw [← hv.out]; simp [sumF])
    clear hv h
    go_enter Try.func195, Try.ntmps195
    go_wp2
    go_ret
    exact ⟨by rw [← hfin.out]; rfl, Below.refl _ _⟩
  · obtain ⟨m, rfl⟩ := Int.eq_ofNat_of_zero_le (show 0 ≤ b by omega)
    have hm3 : m < 3 := by omega
    obtain ⟨q, hq⟩ : ∃ q, f (6 + (t * 3 + m)) = q := ⟨_, rfl⟩
    have hq4 : q < 4 := by rw [← hq]; exact reg_lt hf ht hm3
    have hfin : Hid (((q : Int) + (c : Int)) % 4 = (v : Int)) := Lib.hid (by rw [← hv.out, sumF, if_neg hb, Int.toNat_natCast, Int.toNat_natCast, hq]; omega)
    have hb' : ((m : Int) == -1) = false := by simp
    have HQ := Lib.hid hq
    have HR := Lib.hid (reg_any f t m · hf ht hm3 q HQ)
    clear hv h hb hq
    go_enter Try.func195, Try.ntmps195
    go_wp2_with fail
    refine (HR.out _).mono ?_
    rintro e w1 ⟨rfl, hb1⟩
    go_wp2
    go_ret
    exact ⟨by rw [← hfin.out]; rfl, hb1⟩

/-- What a statement does to registers, places, locks and channels. -/
def affF (f : Nat → Nat) (t : Nat) (x : Sm) : Nat → Nat :=
  if x.k = 0 then upd f (6 + (t * 3 + x.a.toNat)) (sumF f t x.b x.c)
  else if x.k = 1 then upd f (6 + (t * 3 + x.a.toNat)) (f (15 + x.b.toNat))
  else if x.k = 2 then upd f (15 + x.a.toNat) (sumF f t x.b x.c)
  else if x.k = 3 then upd (upd f (6 + (t * 3 + x.a.toNat)) (f (15 + x.b.toNat))) (15 + x.b.toNat) x.c.toNat
  else if x.k = 4 then upd (upd f (6 + (t * 3 + x.a.toNat)) (f (15 + x.b.toNat))) (15 + x.b.toNat) ((f (15 + x.b.toNat) + x.c.toNat) % 4)
  else if x.k = 6 then upd f (18 + x.a.toNat) (t + 1)
  else if x.k = 7 then upd f (18 + x.a.toNat) 0
  else if x.k = 8 then upd f (20 + x.a.toNat) (sumF f t x.b x.c + 1)
  else if x.k = 9 then upd (upd f (6 + (t * 3 + x.a.toNat)) (f (20 + x.b.toNat) - 1)) (20 + x.b.toNat) 0
  else f
theorem ok_a3 {k a b c : Int} {s : Bool} (h : okB k a b c s = true) (hk : k = 0 ∨ k = 1 ∨ k = 2 ∨ k = 3 ∨ k = 4 ∨ k = 9 ∨ k = 10) : ∃ n : Nat, n < 3 ∧ a = (n : Int) := by
  have : 0 ≤ a ∧ a ≤ 2 := by rcases hk with rfl | rfl | rfl | rfl | rfl | rfl | rfl <;> (cases s <;> simp [okB, inB] at h <;> omega)
  exact ⟨a.toNat, by omega, by omega⟩
theorem ok_b3 {k a b c : Int} {s : Bool} (h : okB k a b c s = true) (hk : k = 1 ∨ k = 3 ∨ k = 4) : ∃ n : Nat, n < 3 ∧ b = (n : Int) := by
  have : 0 ≤ b ∧ b ≤ 2 := by rcases hk with rfl | rfl | rfl <;> (cases s <;> simp [okB, inB] at h <;> omega)
  exact ⟨b.toNat, by omega, by omega⟩
theorem ok_c4 {k a b c : Int} {s : Bool} (h : okB k a b c s = true) (hk : k = 3 ∨ k = 4) : ∃ n : Nat, n < 4 ∧ c = (n : Int) := by
  have : 0 ≤ c ∧ c ≤ 3 := by rcases hk with rfl | rfl <;> (cases s <;> simp [okB, inB] at h <;> omega)
  exact ⟨c.toNat, by omega, by omega⟩
theorem ok_sum {k a b c : Int} {s : Bool} (h : okB k a b c s = true) (hk : k = 0 ∨ k = 2 ∨ k = 8) : valB b c = true := by
  rcases hk with rfl | rfl | rfl <;> (cases s <;> simp [okB] at h <;> exact h.2)
theorem ok_ab2 {k a b c : Int} {s : Bool} (h : okB k a b c s = true) (hk : k = 6 ∨ k = 7 ∨ k = 8) : ∃ n : Nat, n < 2 ∧ a = (n : Int) := by
  have : 0 ≤ a ∧ a ≤ 1 := by rcases hk with rfl | rfl | rfl <;> (cases s <;> simp [okB, inB] at h <;> omega)
  exact ⟨a.toNat, by omega, by omega⟩
theorem ok_b2 {k a b c : Int} {s : Bool} (h : okB k a b c s = true) (hk : k = 9) : ∃ n : Nat, n < 2 ∧ b = (n : Int) := by
  have : 0 ≤ b ∧ b ≤ 1 := by subst hk; (cases s <;> simp [okB, inB] at h <;> omega)
  exact ⟨b.toNat, by omega, by omega⟩

theorem aff_0 (f : Nat → Nat) (t : Nat) (a b c : Int) (s : Bool) (w : World) (hf : okF WS f) (ht : t < 3) (hx : okB 0 a b c s = true) (g : Nat → Nat) (hg : Hid (affF f t ⟨0, a, b, c, s⟩ = g)) :
    Calls Try.prog 192 #[.int .u64 (enc WS f : Nat), .int .i64 t, St 0 a b c s] w fun e w' => e = .returned (.int .u64 (enc WS g : Nat)) ∧ Below w.heap.size w w' := by
  obtain ⟨n, hn, rfl⟩ := ok_a3 hx (Or.inl rfl)
  have hv := ok_sum hx (Or.inl rfl)
  obtain ⟨v, hvv⟩ : ∃ v, sumF f t b c = v := ⟨_, rfl⟩
  have hv4 : v < 4 := by rw [← hvv]; exact sumF_lt hv
  have HV := Lib.hid hvv
  have HG : Hid (upd f (6 + (t * 3 + n)) v = g) := Lib.hid (by rw [← hg.out, ← hvv]; rfl)
  clear hg hvv hx
  obtain ⟨W, hW⟩ : ∃ W, W = w.alloc (.cells #[.int .i64 0, .int .i64 n, .int .i64 b, .int .i64 c, .bool s] 132) := ⟨_, rfl⟩
  have bW : Below w.heap.size w W := by rw [hW]; go_grown
  have kW : Bk W w.heap.size 132 #[.int .i64 0, .int .i64 n, .int .i64 b, .int .i64 c, .bool s] := by rw [hW]; exact Bk.new _ _ _
  have lW := kW.lt
  have gx0 : ∀ x : Ws (Fr W []), x.val.cell? ⟨w.heap.size, 0, none⟩ = some (.int .i64 0) := Ws.same (bs := []) lW (kW.cell 0)
  have gx1 : ∀ x : Ws (Fr W []), x.val.cell? ⟨w.heap.size, 1, none⟩ = some (.int .i64 n) := Ws.same (bs := []) lW (kW.cell 1)
  have gx2 : ∀ x : Ws (Fr W []), x.val.cell? ⟨w.heap.size, 2, none⟩ = some (.int .i64 b) := Ws.same (bs := []) lW (kW.cell 2)
  have gx3 : ∀ x : Ws (Fr W []), x.val.cell? ⟨w.heap.size, 3, none⟩ = some (.int .i64 c) := Ws.same (bs := []) lW (kW.cell 3)
  have gx4 : ∀ x : Ws (Fr W []), x.val.cell? ⟨w.heap.size, 4, none⟩ = some (.bool s) := Ws.same (bs := []) lW (kW.cell 4)
  have HS := Lib.hid (fr_none W)
  haveI hne := Nonempty.intro (Ws.mk _ (fr_none W))
  have BW := Lib.hid bW
  have HW := Lib.hid hW
  clear hW bW kW
  go_enter Try.func192, Try.ntmps192
  go_wp2_with fail
  rw [← HW.out]
  refine region_in (by kernel_rfl) HS.out.drew ?_
  repeat (go_big_quiet_step (first | (go_at_call 195; exact call_in (sum_any f t b c _ hf ht hv v HV)) | (go_at_call 194; exact call_in (wreg_any (f) t n v _ hf ht hn hv4))))
  refine wpQuiet_nil ?_
  rintro _ ⟨⟨w2, hw2⟩, rfl⟩
  have hB2 := below_on BW.out hw2.below
  clear gx0 gx1 gx2 gx3 gx4
  go_wp2
  go_ret
  exact ⟨by rw [← HG.out]; rfl, hB2⟩
theorem aff_1 (f : Nat → Nat) (t : Nat) (a b c : Int) (s : Bool) (w : World) (hf : okF WS f) (ht : t < 3) (hx : okB 1 a b c s = true) (g : Nat → Nat) (hg : Hid (affF f t ⟨1, a, b, c, s⟩ = g)) :
    Calls Try.prog 192 #[.int .u64 (enc WS f : Nat), .int .i64 t, St 1 a b c s] w fun e w' => e = .returned (.int .u64 (enc WS g : Nat)) ∧ Below w.heap.size w w' := by
  obtain ⟨n, hn, rfl⟩ := ok_a3 hx (Or.inr (Or.inl rfl))
  obtain ⟨m, hm, rfl⟩ := ok_b3 hx (Or.inl rfl)
  obtain ⟨v, hvv⟩ : ∃ v, f (15 + m) = v := ⟨_, rfl⟩
  have hv4 : v < 4 := by rw [← hvv]; exact mem_lt hf hm
  have HV : Hid ((f (15 + m) : Int) + fL 2 = (v : Int)) := Lib.hid (by rw [hvv]; simp [fL])
  have HG : Hid (upd f (6 + (t * 3 + n)) v = g) := Lib.hid (by rw [← hg.out, ← hvv]; rfl)
  clear hg hvv hx
  obtain ⟨W, hW⟩ : ∃ W, W = w.alloc (.cells #[.int .i64 1, .int .i64 n, .int .i64 m, .int .i64 c, .bool s] 132) := ⟨_, rfl⟩
  have bW : Below w.heap.size w W := by rw [hW]; go_grown
  have kW : Bk W w.heap.size 132 #[.int .i64 1, .int .i64 n, .int .i64 m, .int .i64 c, .bool s] := by rw [hW]; exact Bk.new _ _ _
  have lW := kW.lt
  have gx0 : ∀ x : Ws (Fr W []), x.val.cell? ⟨w.heap.size, 0, none⟩ = some (.int .i64 1) := Ws.same (bs := []) lW (kW.cell 0)
  have gx1 : ∀ x : Ws (Fr W []), x.val.cell? ⟨w.heap.size, 1, none⟩ = some (.int .i64 n) := Ws.same (bs := []) lW (kW.cell 1)
  have gx2 : ∀ x : Ws (Fr W []), x.val.cell? ⟨w.heap.size, 2, none⟩ = some (.int .i64 m) := Ws.same (bs := []) lW (kW.cell 2)
  have gx3 : ∀ x : Ws (Fr W []), x.val.cell? ⟨w.heap.size, 3, none⟩ = some (.int .i64 c) := Ws.same (bs := []) lW (kW.cell 3)
  have gx4 : ∀ x : Ws (Fr W []), x.val.cell? ⟨w.heap.size, 4, none⟩ = some (.bool s) := Ws.same (bs := []) lW (kW.cell 4)
  have HS := Lib.hid (fr_none W)
  haveI hne := Nonempty.intro (Ws.mk _ (fr_none W))
  have BW := Lib.hid bW
  have HW := Lib.hid hW
  clear hW bW kW
  go_enter Try.func192, Try.ntmps192
  go_wp2_with fail
  rw [← HW.out]
  refine region_in (by kernel_rfl) HS.out.drew ?_
  repeat (go_big_quiet_step (first | (go_at_call 152; exact call_in (entF fld2 hf m hm _ _ HV)) | (go_at_call 194; exact call_in (wreg_any (f) t n v _ hf ht hn hv4))))
  refine wpQuiet_nil ?_
  rintro _ ⟨⟨w2, hw2⟩, rfl⟩
  have hB2 := below_on BW.out hw2.below
  clear gx0 gx1 gx2 gx3 gx4
  go_wp2
  go_ret
  exact ⟨by rw [← HG.out]; rfl, hB2⟩
theorem aff_2 (f : Nat → Nat) (t : Nat) (a b c : Int) (s : Bool) (w : World) (hf : okF WS f) (ht : t < 3) (hx : okB 2 a b c s = true) (g : Nat → Nat) (hg : Hid (affF f t ⟨2, a, b, c, s⟩ = g)) :
    Calls Try.prog 192 #[.int .u64 (enc WS f : Nat), .int .i64 t, St 2 a b c s] w fun e w' => e = .returned (.int .u64 (enc WS g : Nat)) ∧ Below w.heap.size w w' := by
  obtain ⟨n, hn, rfl⟩ := ok_a3 hx (Or.inr (Or.inr (Or.inl rfl)))
  have hv := ok_sum hx (Or.inr (Or.inl rfl))
  obtain ⟨v, hvv⟩ : ∃ v, sumF f t b c = v := ⟨_, rfl⟩
  have hv4 : v < 4 := by rw [← hvv]; exact sumF_lt hv
  have HV := Lib.hid hvv
  have HG : Hid (upd f (15 + n) v = g) := Lib.hid (by rw [← hg.out, ← hvv]; rfl)
  clear hg hvv hx
  obtain ⟨W, hW⟩ : ∃ W, W = w.alloc (.cells #[.int .i64 2, .int .i64 n, .int .i64 b, .int .i64 c, .bool s] 132) := ⟨_, rfl⟩
  have bW : Below w.heap.size w W := by rw [hW]; go_grown
  have kW : Bk W w.heap.size 132 #[.int .i64 2, .int .i64 n, .int .i64 b, .int .i64 c, .bool s] := by rw [hW]; exact Bk.new _ _ _
  have lW := kW.lt
  have gx0 : ∀ x : Ws (Fr W []), x.val.cell? ⟨w.heap.size, 0, none⟩ = some (.int .i64 2) := Ws.same (bs := []) lW (kW.cell 0)
  have gx1 : ∀ x : Ws (Fr W []), x.val.cell? ⟨w.heap.size, 1, none⟩ = some (.int .i64 n) := Ws.same (bs := []) lW (kW.cell 1)
  have gx2 : ∀ x : Ws (Fr W []), x.val.cell? ⟨w.heap.size, 2, none⟩ = some (.int .i64 b) := Ws.same (bs := []) lW (kW.cell 2)
  have gx3 : ∀ x : Ws (Fr W []), x.val.cell? ⟨w.heap.size, 3, none⟩ = some (.int .i64 c) := Ws.same (bs := []) lW (kW.cell 3)
  have gx4 : ∀ x : Ws (Fr W []), x.val.cell? ⟨w.heap.size, 4, none⟩ = some (.bool s) := Ws.same (bs := []) lW (kW.cell 4)
  have HS := Lib.hid (fr_none W)
  haveI hne := Nonempty.intro (Ws.mk _ (fr_none W))
  have BW := Lib.hid bW
  have HW := Lib.hid hW
  clear hW bW kW
  go_enter Try.func192, Try.ntmps192
  go_wp2_with fail
  rw [← HW.out]
  refine region_in (by kernel_rfl) HS.out.drew ?_
  repeat (go_big_quiet_step (first | (go_at_call 195; exact call_in (sum_any f t b c _ hf ht hv v HV)) | (go_at_call 155; exact call_in (wentF fld2 hf n v _ hn hv4 (by simp [fL]) _))))
  refine wpQuiet_nil ?_
  rintro _ ⟨⟨w2, hw2⟩, rfl⟩
  have hB2 := below_on BW.out hw2.below
  clear gx0 gx1 gx2 gx3 gx4
  go_wp2
  go_ret
  exact ⟨by rw [← HG.out]; rfl, hB2⟩
theorem aff_3 (f : Nat → Nat) (t : Nat) (a b c : Int) (s : Bool) (w : World) (hf : okF WS f) (ht : t < 3) (hx : okB 3 a b c s = true) (g : Nat → Nat) (hg : Hid (affF f t ⟨3, a, b, c, s⟩ = g)) :
    Calls Try.prog 192 #[.int .u64 (enc WS f : Nat), .int .i64 t, St 3 a b c s] w fun e w' => e = .returned (.int .u64 (enc WS g : Nat)) ∧ Below w.heap.size w w' := by
  obtain ⟨n, hn, rfl⟩ := ok_a3 hx (by omega)
  obtain ⟨m, hm, rfl⟩ := ok_b3 hx (by omega)
  obtain ⟨q, hq, rfl⟩ := ok_c4 hx (by omega)
  obtain ⟨v, hvv⟩ : ∃ v, f (15 + m) = v := ⟨_, rfl⟩
  have hv4 : v < 4 := by rw [← hvv]; exact mem_lt hf hm
  have HV : Hid ((f (15 + m) : Int) + fL 2 = (v : Int)) := Lib.hid (by rw [hvv]; simp [fL])
  have HG : Hid (upd (upd f (6 + (t * 3 + n)) v) (15 + m) q = g) := Lib.hid (by rw [← hg.out, ← hvv]; rfl)
  have hf2 : okF WS (upd f (6 + (t * 3 + n)) v) := okF_upd fld1 hf (i := t * 3 + n) (show t * 3 + n < 9 by omega) (show v < 4 by omega)
  clear hg hvv hx
  obtain ⟨W, hW⟩ : ∃ W, W = w.alloc (.cells #[.int .i64 3, .int .i64 n, .int .i64 m, .int .i64 q, .bool s] 132) := ⟨_, rfl⟩
  have bW : Below w.heap.size w W := by rw [hW]; go_grown
  have kW : Bk W w.heap.size 132 #[.int .i64 3, .int .i64 n, .int .i64 m, .int .i64 q, .bool s] := by rw [hW]; exact Bk.new _ _ _
  have lW := kW.lt
  have gx0 : ∀ x : Ws (Fr W []), x.val.cell? ⟨w.heap.size, 0, none⟩ = some (.int .i64 3) := Ws.same (bs := []) lW (kW.cell 0)
  have gx1 : ∀ x : Ws (Fr W []), x.val.cell? ⟨w.heap.size, 1, none⟩ = some (.int .i64 n) := Ws.same (bs := []) lW (kW.cell 1)
  have gx2 : ∀ x : Ws (Fr W []), x.val.cell? ⟨w.heap.size, 2, none⟩ = some (.int .i64 m) := Ws.same (bs := []) lW (kW.cell 2)
  have gx3 : ∀ x : Ws (Fr W []), x.val.cell? ⟨w.heap.size, 3, none⟩ = some (.int .i64 q) := Ws.same (bs := []) lW (kW.cell 3)
  have gx4 : ∀ x : Ws (Fr W []), x.val.cell? ⟨w.heap.size, 4, none⟩ = some (.bool s) := Ws.same (bs := []) lW (kW.cell 4)
  have HS := Lib.hid (fr_none W)
  haveI hne := Nonempty.intro (Ws.mk _ (fr_none W))
  have BW := Lib.hid bW
  have HW := Lib.hid hW
  clear hW bW kW
  go_enter Try.func192, Try.ntmps192
  go_wp2_with fail
  rw [← HW.out]
  refine region_in (by kernel_rfl) HS.out.drew ?_
  repeat (go_big_quiet_step (first | (go_at_call 152; exact call_in (entF fld2 hf m hm _ _ HV)) | (go_at_call 194; exact call_in (wreg_any (f) t n v _ hf ht hn hv4)) | (go_at_call 155; exact call_in (wentF fld2 hf2 m q _ hm hq (by simp [fL]) _))))
  refine wpQuiet_nil ?_
  rintro _ ⟨⟨w2, hw2⟩, rfl⟩
  have hB2 := below_on BW.out hw2.below
  clear gx0 gx1 gx2 gx3 gx4
  go_wp2
  go_ret
  exact ⟨by rw [← HG.out]; rfl, hB2⟩
theorem aff_6 (f : Nat → Nat) (t : Nat) (a b c : Int) (s : Bool) (w : World) (hf : okF WS f) (ht : t < 3) (hx : okB 6 a b c s = true) (g : Nat → Nat) (hg : Hid (affF f t ⟨6, a, b, c, s⟩ = g)) :
    Calls Try.prog 192 #[.int .u64 (enc WS f : Nat), .int .i64 t, St 6 a b c s] w fun e w' => e = .returned (.int .u64 (enc WS g : Nat)) ∧ Below w.heap.size w w' := by
  obtain ⟨n, hn, rfl⟩ := ok_ab2 hx (by omega)
  have HG : Hid (upd f (18 + n) (t + 1) = g) := Lib.hid (by rw [← hg.out]; rfl)
  clear hg hx
  obtain ⟨W, hW⟩ : ∃ W, W = w.alloc (.cells #[.int .i64 6, .int .i64 n, .int .i64 b, .int .i64 c, .bool s] 132) := ⟨_, rfl⟩
  have bW : Below w.heap.size w W := by rw [hW]; go_grown
  have BW := Lib.hid bW
  have HW := Lib.hid hW
  clear hW bW
  go_enter Try.func192, Try.ntmps192
  go_wp2_with fail
  rw [← HW.out]
  refine (wentF fld3 hf n (t + 1) _ hn (show _ < 4 by omega) (by simp [fL]; try omega) W).mono ?_
  rintro e w1 ⟨rfl, hb⟩
  have hB2 := below_on BW.out hb
  clear hb
  go_wp2
  go_ret
  exact ⟨by rw [← HG.out]; rfl, hB2⟩
theorem aff_7 (f : Nat → Nat) (t : Nat) (a b c : Int) (s : Bool) (w : World) (hf : okF WS f) (ht : t < 3) (hx : okB 7 a b c s = true) (g : Nat → Nat) (hg : Hid (affF f t ⟨7, a, b, c, s⟩ = g)) :
    Calls Try.prog 192 #[.int .u64 (enc WS f : Nat), .int .i64 t, St 7 a b c s] w fun e w' => e = .returned (.int .u64 (enc WS g : Nat)) ∧ Below w.heap.size w w' := by
  obtain ⟨n, hn, rfl⟩ := ok_ab2 hx (by omega)
  have HG : Hid (upd f (18 + n) (0) = g) := Lib.hid (by rw [← hg.out]; rfl)
  clear hg hx
  obtain ⟨W, hW⟩ : ∃ W, W = w.alloc (.cells #[.int .i64 7, .int .i64 n, .int .i64 b, .int .i64 c, .bool s] 132) := ⟨_, rfl⟩
  have bW : Below w.heap.size w W := by rw [hW]; go_grown
  have BW := Lib.hid bW
  have HW := Lib.hid hW
  clear hW bW
  go_enter Try.func192, Try.ntmps192
  go_wp2_with fail
  rw [← HW.out]
  refine (wentF fld3 hf n (0) _ hn (show _ < 4 by omega) (by simp [fL]; try omega) W).mono ?_
  rintro e w1 ⟨rfl, hb⟩
  have hB2 := below_on BW.out hb
  clear hb
  go_wp2
  go_ret
  exact ⟨by rw [← HG.out]; rfl, hB2⟩
theorem aff_8 (f : Nat → Nat) (t : Nat) (a b c : Int) (s : Bool) (w : World) (hf : okF WS f) (ht : t < 3) (hx : okB 8 a b c s = true) (g : Nat → Nat) (hg : Hid (affF f t ⟨8, a, b, c, s⟩ = g)) :
    Calls Try.prog 192 #[.int .u64 (enc WS f : Nat), .int .i64 t, St 8 a b c s] w fun e w' => e = .returned (.int .u64 (enc WS g : Nat)) ∧ Below w.heap.size w w' := by
  obtain ⟨n, hn, rfl⟩ := ok_ab2 hx (by omega)
  have hv := ok_sum hx (by omega)
  obtain ⟨v, hvv⟩ : ∃ v, sumF f t b c = v := ⟨_, rfl⟩
  have hv4 : v < 4 := by rw [← hvv]; exact sumF_lt hv
  have HV := Lib.hid hvv
  have HG : Hid (upd f (20 + n) (v + 1) = g) := Lib.hid (by rw [← hg.out, ← hvv]; rfl)
  clear hg hvv hx
  obtain ⟨W, hW⟩ : ∃ W, W = w.alloc (.cells #[.int .i64 8, .int .i64 n, .int .i64 b, .int .i64 c, .bool s] 132) := ⟨_, rfl⟩
  have bW : Below w.heap.size w W := by rw [hW]; go_grown
  have kW : Bk W w.heap.size 132 #[.int .i64 8, .int .i64 n, .int .i64 b, .int .i64 c, .bool s] := by rw [hW]; exact Bk.new _ _ _
  have lW := kW.lt
  have gx0 : ∀ x : Ws (Fr W []), x.val.cell? ⟨w.heap.size, 0, none⟩ = some (.int .i64 8) := Ws.same (bs := []) lW (kW.cell 0)
  have gx1 : ∀ x : Ws (Fr W []), x.val.cell? ⟨w.heap.size, 1, none⟩ = some (.int .i64 n) := Ws.same (bs := []) lW (kW.cell 1)
  have gx2 : ∀ x : Ws (Fr W []), x.val.cell? ⟨w.heap.size, 2, none⟩ = some (.int .i64 b) := Ws.same (bs := []) lW (kW.cell 2)
  have gx3 : ∀ x : Ws (Fr W []), x.val.cell? ⟨w.heap.size, 3, none⟩ = some (.int .i64 c) := Ws.same (bs := []) lW (kW.cell 3)
  have gx4 : ∀ x : Ws (Fr W []), x.val.cell? ⟨w.heap.size, 4, none⟩ = some (.bool s) := Ws.same (bs := []) lW (kW.cell 4)
  have HS := Lib.hid (fr_none W)
  haveI hne := Nonempty.intro (Ws.mk _ (fr_none W))
  have BW := Lib.hid bW
  have HW := Lib.hid hW
  clear hW bW kW
  go_enter Try.func192, Try.ntmps192
  go_wp2_with fail
  rw [← HW.out]
  refine region_in (by kernel_rfl) HS.out.drew ?_
  repeat (go_big_quiet_step (first | (go_at_call 195; exact call_in (sum_any f t b c _ hf ht hv v HV)) | (go_at_call 155; exact call_in (wentF fld4 hf n (v + 1) _ hn (show v + 1 < 8 by omega) (show (v : Int) = ((v + 1 : Nat) : Int) + -1 by omega) _))))
  refine wpQuiet_nil ?_
  rintro _ ⟨⟨w2, hw2⟩, rfl⟩
  have hB2 := below_on BW.out hw2.below
  clear gx0 gx1 gx2 gx3 gx4
  go_wp2
  go_ret
  exact ⟨by rw [← HG.out]; rfl, hB2⟩
theorem aff_9 (f : Nat → Nat) (t : Nat) (a b c : Int) (s : Bool) (w : World) (hf : okF WS f) (ht : t < 3) (hx : okB 9 a b c s = true) (h1 : ∀ n : Nat, b = (n : Int) → 1 ≤ f (20 + n) ∧ f (20 + n) ≤ 4) (g : Nat → Nat) (hg : Hid (affF f t ⟨9, a, b, c, s⟩ = g)) :
    Calls Try.prog 192 #[.int .u64 (enc WS f : Nat), .int .i64 t, St 9 a b c s] w fun e w' => e = .returned (.int .u64 (enc WS g : Nat)) ∧ Below w.heap.size w w' := by
  obtain ⟨n, hn, rfl⟩ := ok_a3 hx (by omega)
  obtain ⟨m, hm, rfl⟩ := ok_b2 hx rfl
  obtain ⟨g1, g2⟩ := h1 m rfl
  obtain ⟨v, hvv⟩ : ∃ v, f (20 + m) = v + 1 := ⟨f (20 + m) - 1, by omega⟩
  have hv4 : v < 4 := by omega
  have HV : Hid ((f (20 + m) : Int) + fL 4 = (v : Int)) := Lib.hid (by rw [hvv]; show ((v + 1 : Nat) : Int) + -1 = (v : Int); omega)
  have HG : Hid (upd (upd f (6 + (t * 3 + n)) v) (20 + m) 0 = g) := Lib.hid (by rw [← hg.out]; simp [affF, hvv])
  have hf2 : okF WS (upd f (6 + (t * 3 + n)) v) := okF_upd fld1 hf (i := t * 3 + n) (show t * 3 + n < 9 by omega) (show v < 4 by omega)
  clear hg hvv hx h1 g1 g2
  obtain ⟨W, hW⟩ : ∃ W, W = w.alloc (.cells #[.int .i64 9, .int .i64 n, .int .i64 m, .int .i64 c, .bool s] 132) := ⟨_, rfl⟩
  have bW : Below w.heap.size w W := by rw [hW]; go_grown
  have kW : Bk W w.heap.size 132 #[.int .i64 9, .int .i64 n, .int .i64 m, .int .i64 c, .bool s] := by rw [hW]; exact Bk.new _ _ _
  have lW := kW.lt
  have gx0 : ∀ x : Ws (Fr W []), x.val.cell? ⟨w.heap.size, 0, none⟩ = some (.int .i64 9) := Ws.same (bs := []) lW (kW.cell 0)
  have gx1 : ∀ x : Ws (Fr W []), x.val.cell? ⟨w.heap.size, 1, none⟩ = some (.int .i64 n) := Ws.same (bs := []) lW (kW.cell 1)
  have gx2 : ∀ x : Ws (Fr W []), x.val.cell? ⟨w.heap.size, 2, none⟩ = some (.int .i64 m) := Ws.same (bs := []) lW (kW.cell 2)
  have gx3 : ∀ x : Ws (Fr W []), x.val.cell? ⟨w.heap.size, 3, none⟩ = some (.int .i64 c) := Ws.same (bs := []) lW (kW.cell 3)
  have gx4 : ∀ x : Ws (Fr W []), x.val.cell? ⟨w.heap.size, 4, none⟩ = some (.bool s) := Ws.same (bs := []) lW (kW.cell 4)
  have HS := Lib.hid (fr_none W)
  haveI hne := Nonempty.intro (Ws.mk _ (fr_none W))
  have BW := Lib.hid bW
  have HW := Lib.hid hW
  clear hW bW kW
  go_enter Try.func192, Try.ntmps192
  go_wp2_with fail
  rw [← HW.out]
  refine region_in (by kernel_rfl) HS.out.drew ?_
  repeat (go_big_quiet_step (first | (go_at_call 152; exact call_in (entF fld4 hf m hm _ _ HV)) | (go_at_call 194; exact call_in (wreg_any (f) t n v _ hf ht hn hv4)) | (go_at_call 155; exact call_in (wentF fld4 hf2 m 0 _ hm (by decide) (by simp [fL]) _))))
  refine wpQuiet_nil ?_
  rintro _ ⟨⟨w2, hw2⟩, rfl⟩
  have hB2 := below_on BW.out hw2.below
  clear gx0 gx1 gx2 gx3 gx4
  go_wp2
  go_ret
  exact ⟨by rw [← HG.out]; rfl, hB2⟩
theorem aff_4 (f : Nat → Nat) (t : Nat) (a b c : Int) (s : Bool) (w : World) (hf : okF WS f) (ht : t < 3) (hx : okB 4 a b c s = true) (g : Nat → Nat) (hg : Hid (affF f t ⟨4, a, b, c, s⟩ = g)) :
    Calls Try.prog 192 #[.int .u64 (enc WS f : Nat), .int .i64 t, St 4 a b c s] w fun e w' => e = .returned (.int .u64 (enc WS g : Nat)) ∧ Below w.heap.size w w' := by
  obtain ⟨n, hn, rfl⟩ := ok_a3 hx (by omega)
  obtain ⟨m, hm, rfl⟩ := ok_b3 hx (by omega)
  obtain ⟨q, hq, rfl⟩ := ok_c4 hx (by omega)
  obtain ⟨v, hvv⟩ : ∃ v, f (15 + m) = v := ⟨_, rfl⟩
  have hv4 : v < 4 := by rw [← hvv]; exact mem_lt hf hm
  have HV : Hid ((f (15 + m) : Int) + fL 2 = (v : Int)) := Lib.hid (by rw [hvv]; simp [fL])
  have HG : Hid (upd (upd f (6 + (t * 3 + n)) v) (15 + m) ((v + q) % 4) = g) := Lib.hid (by rw [← hg.out, ← hvv]; rfl)
  have hf2 : okF WS (upd f (6 + (t * 3 + n)) v) := okF_upd fld1 hf (i := t * 3 + n) (show t * 3 + n < 9 by omega) (show v < 4 by omega)
  have hm4 : (v + q) % 4 < 4 := Nat.mod_lt _ (by omega)
  clear hg hvv hx
  obtain ⟨W0, hW⟩ : ∃ W, W = w.alloc (.cells #[.int .i64 4, .int .i64 n, .int .i64 m, .int .i64 q, .bool s] 132) := ⟨_, rfl⟩
  have bW : Below w.heap.size w W0 := by rw [hW]; go_grown
  have kW : Bk W0 w.heap.size 132 #[.int .i64 4, .int .i64 n, .int .i64 m, .int .i64 q, .bool s] := by rw [hW]; exact Bk.new _ _ _
  have BW0 := Lib.hid bW
  have KW := Lib.hid kW
  have HW := Lib.hid hW
  clear hW bW kW
  go_enter Try.func192, Try.ntmps192
  go_wp2_with fail
  rw [← HW.out]
  refine (entF fld2 hf m hm W0 _ HV).mono ?_
  rintro e W ⟨rfl, hb⟩
  have kw := KW.out.below hb KW.out.lt
  have BW := Lib.hid (below_on BW0.out hb)
  have lW := kw.lt
  have gx0 : ∀ x : Ws (Fr W []), x.val.cell? ⟨w.heap.size, 0, none⟩ = some (.int .i64 4) := Ws.same (bs := []) lW (kw.cell 0)
  have gx1 : ∀ x : Ws (Fr W []), x.val.cell? ⟨w.heap.size, 1, none⟩ = some (.int .i64 n) := Ws.same (bs := []) lW (kw.cell 1)
  have gx2 : ∀ x : Ws (Fr W []), x.val.cell? ⟨w.heap.size, 2, none⟩ = some (.int .i64 m) := Ws.same (bs := []) lW (kw.cell 2)
  have gx3 : ∀ x : Ws (Fr W []), x.val.cell? ⟨w.heap.size, 3, none⟩ = some (.int .i64 q) := Ws.same (bs := []) lW (kw.cell 3)
  have gx4 : ∀ x : Ws (Fr W []), x.val.cell? ⟨w.heap.size, 4, none⟩ = some (.bool s) := Ws.same (bs := []) lW (kw.cell 4)
  have HS := Lib.hid (fr_none W)
  haveI hne := Nonempty.intro (Ws.mk _ (fr_none W))
  clear hb kw
  have s1 : IntKind.i64.wrap ((v : Int) + (q : Int)) = (v : Int) + (q : Int) := wrap64_small (by omega) (by omega)
  have s2 : 0 ≤ (v : Int) + (q : Int) := by omega
  have s3 : ((v : Int) + (q : Int)).tmod 4 = ((v : Int) + (q : Int)) % 4 := Int.tmod_eq_emod_of_nonneg s2
  have HM := Lib.hid (show ((v : Int) + (q : Int)) % 4 = (((v + q) % 4 : Nat) : Int) + fL 2 by simp [fL])
  go_wp2_with fail
  refine region_in (by kernel_rfl) HS.out.drew ?_
  repeat (go_big_quiet_step (first | (go_at_call 194; exact call_in (wreg_any (f) t n v _ hf ht hn hv4)) | (go_at_call 155; exact call_in (wentF fld2 hf2 m ((v + q) % 4) _ hm hm4 HM.out _))))
  refine wpQuiet_nil ?_
  rintro _ ⟨⟨w2, hw2⟩, rfl⟩
  have hB2 := below_on BW.out hw2.below
  clear gx0 gx1 gx2 gx3 gx4 s1 s2 s3
  go_wp2
  go_ret
  exact ⟨by rw [← HG.out]; rfl, hB2⟩
theorem aff_rest (f : Nat → Nat) (t : Nat) (k a b c : Int) (s : Bool) (w : World) (h0 : k ≠ 0) (h1 : k ≠ 1) (h2 : k ≠ 2) (h3 : k ≠ 3) (h4 : k ≠ 4) (h6 : k ≠ 6) (h7 : k ≠ 7) (h8 : k ≠ 8) (h9 : k ≠ 9) :
    Calls Try.prog 192 #[.int .u64 (enc WS f : Nat), .int .i64 t, St k a b c s] w fun e w' => e = .returned (.int .u64 (enc WS f : Nat)) ∧ Below w.heap.size w w' := by
  have g0 : (k == 0) = false := by simp [h0]
  have g1 : (k == 1) = false := by simp [h1]
  have g2 : (k == 2) = false := by simp [h2]
  have g3 : (k == 3) = false := by simp [h3]
  have g4 : (k == 4) = false := by simp [h4]
  have g6 : (k == 6) = false := by simp [h6]
  have g7 : (k == 7) = false := by simp [h7]
  have g8 : (k == 8) = false := by simp [h8]
  have g9 : (k == 9) = false := by simp [h9]
  clear h0 h1 h2 h3 h4 h6 h7 h8 h9
  go_enter Try.func192, Try.ntmps192
  go_wp2
  go_ret
  exact ⟨rfl, by go_grown⟩
theorem affected_any (f : Nat → Nat) (t : Nat) (x : Sm) (w : World) (hf : okF WS f) (ht : t < 3) (hx : x.okb = true) (h1 : x.k = 9 → ∀ n : Nat, x.b = (n : Int) → 1 ≤ f (20 + n) ∧ f (20 + n) ≤ 4) :
    Calls Try.prog 192 #[.int .u64 (enc WS f : Nat), .int .i64 t, x.val] w fun e w' => e = .returned (.int .u64 (enc WS (affF f t x) : Nat)) ∧ Below w.heap.size w w' := by
  obtain ⟨k, a, b, c, s⟩ := x
  by_cases h0 : k = 0
  · subst h0; exact aff_0 f t a b c s w hf ht hx _ (Lib.hid rfl)
  by_cases h1' : k = 1
  · subst h1'; exact aff_1 f t a b c s w hf ht hx _ (Lib.hid rfl)
  by_cases h2 : k = 2
  · subst h2; exact aff_2 f t a b c s w hf ht hx _ (Lib.hid rfl)
  by_cases h3 : k = 3
  · subst h3; exact aff_3 f t a b c s w hf ht hx _ (Lib.hid rfl)
  by_cases h4 : k = 4
  · subst h4; exact aff_4 f t a b c s w hf ht hx _ (Lib.hid rfl)
  by_cases h6 : k = 6
  · subst h6; exact aff_6 f t a b c s w hf ht hx _ (Lib.hid rfl)
  by_cases h7 : k = 7
  · subst h7; exact aff_7 f t a b c s w hf ht hx _ (Lib.hid rfl)
  by_cases h8 : k = 8
  · subst h8; exact aff_8 f t a b c s w hf ht hx _ (Lib.hid rfl)
  by_cases h9 : k = 9
  · subst h9; exact aff_9 f t a b c s w hf ht hx (h1 rfl) _ (Lib.hid rfl)
  have e : affF f t ⟨k, a, b, c, s⟩ = f := by simp [affF, h0, h1', h2, h3, h4, h6, h7, h8, h9]
  rw [e]
  exact aff_rest f t k a b c s w h0 h1' h2 h3 h4 h6 h7 h8 h9

end Go.Proofs.Ytiljakbjbiinkaa
namespace Go.Proofs.Ytiljakbjbiinkaa
open Go.RowKit Pl Go.BigFrame
set_option maxHeartbeats 4000000
set_option maxRecDepth 100000
set_option linter.unusedVariables false

/-- Where a thread is behind a statement. -/
def nextF (L : Pg) (f : Nat → Nat) (t : Nat) (x : Sm) : Nat :=
  if x.k = 10 then (if f (6 + (t * 3 + x.a.toNat)) = 0 then min (f (3 + t) + 1 + x.b.toNat) (L.getD t []).length else f (3 + t) + 1) else f (3 + t) + 1
theorem ok_skip {k a b c : Int} {s : Bool} (h : okB k a b c s = true) (hk : k = 10) : ∃ n : Nat, 1 ≤ n ∧ n ≤ 6 ∧ b = (n : Int) := by
  have : 1 ≤ b ∧ b ≤ 6 := by subst hk; (cases s <;> simp [okB, inB] at h <;> omega)
  exact ⟨b.toNat, by omega, by omega, by omega⟩

theorem nextat_any (h : PgH) (L : Pg) (f : Nat → Nat) (t : Nat) (x : Sm) (w : World) (B : Nat) (hP : PgR w B h L) (hB : B ≤ w.heap.size) (hL : progB L = true) (hf : Good L f) (ht : t < L.length) (hlt : f (3 + t) < (L.getD t []).length) (hx : x.okb = true) (r : Nat) (hr : Hid (nextF L f t x = r)) :
    Calls Try.prog 193 #[PgV h L, .int .u64 (enc WS f : Nat), .int .i64 t, x.val] w fun e w' => e = .returned (.int .i64 r) ∧ Below w.heap.size w w' := by
  obtain ⟨h31, h32⟩ := prog_len hL
  obtain ⟨A, c0⟩ := h
  obtain ⟨k, a, b, c, s⟩ := x
  obtain ⟨pb, po, xs, Ai, ci, hA0, hpb, hxs, hc, -, hmi, -⟩ := pg_at hP ht
  simp only at hA0
  subst hA0
  have ht3 : t < 3 := by omega
  rw [getD_some hxs] at hlt
  obtain ⟨m, hm⟩ : ∃ m, f (3 + t) = m := ⟨_, rfl⟩
  have hxl := (prog_thr hL hxs).1
  rw [hm] at hlt
  unfold maxLen at hmi
  obtain ⟨W, hW⟩ : ∃ W, W = (w.alloc (.cells #[.slice (some ⟨pb, po, none⟩) L.length c0] 30)).alloc (.cells #[.int .i64 k, .int .i64 a, .int .i64 b, .int .i64 c, .bool s] 132) := ⟨_, rfl⟩
  have bW : Below w.heap.size w W := by rw [hW]; go_grown
  have k0 : Bk W w.heap.size 30 #[.slice (some ⟨pb, po, none⟩) L.length c0] := by rw [hW]; exact (Bk.new w _ _).alloc _
  have k1 : Bk W (w.heap.size + 1) 132 #[.int .i64 k, .int .i64 a, .int .i64 b, .int .i64 c, .bool s] := by
    rw [hW]; have := Bk.new (w.alloc (.cells #[.slice (some ⟨pb, po, none⟩) L.length c0] 30)) #[.int .i64 k, .int .i64 a, .int .i64 b, .int .i64 c, .bool s] 132
    rwa [World.size_alloc] at this
  have HE : Hid ((f (3 + t) : Int) + fL 0 = (m : Int)) := Lib.hid (by rw [hm]; simp [fL])
  have EN := Lib.hid (entF fld0 hf.ok t (show t < 3 by omega) W _ HE)
  have hpw : pb < w.heap.size := by omega
  have hcW : W.cell? ⟨pb, po + t, none⟩ = some (.slice Ai xs.length ci) := (bW.cell (p := ⟨pb, po + t, none⟩) hpw).trans hc
  have K0 := Lib.hid k0
  have K1 := Lib.hid k1
  have BW := Lib.hid bW
  have lW := bW.size
  have HW := Lib.hid hW
  have HF := Lib.hid hf
  have hti : (t : Int) < (L.length : Int) := by omega
  have hr' := hr.out
  unfold nextF at hr'
  rw [hm, getD_some hxs] at hr'
  simp only at hr'
  clear hr hW bW k0 k1 hP hc hxs hm hf
  by_cases hk : k = 10
  rotate_left
  · rw [if_neg hk] at hr'
    have hk' : (k == 10) = false := by simp [hk]
    have hfin := Lib.hid hr'
    clear hk hr' hx
    go_enter Try.func193, Try.ntmps193
    go_wp2_with fail
    rw [← HW.out]
    refine EN.out.mono ?_
    rintro e w1 ⟨rfl, hb⟩
    have kp := K0.out.below hb K0.out.lt
    have kx := K1.out.below hb K1.out.lt
    have B1 := Lib.hid (below_on BW.out hb)
    have cp : w1.cell? ⟨w.heap.size, 0, none⟩ = some (.slice (some ⟨pb, po, none⟩) L.length c0) := kp.cell 0
    have hcw : w1.cell? ⟨pb, po + t, none⟩ = some (.slice Ai xs.length ci) := (hb.cell (p := ⟨pb, po + t, none⟩) (by show pb < W.heap.size; omega)).trans hcW
    have cx0 : w1.cell? ⟨w.heap.size + 1, 0, none⟩ = some (.int .i64 k) := kx.cell 0
    have cx1 : w1.cell? ⟨w.heap.size + 1, 1, none⟩ = some (.int .i64 a) := kx.cell 1
    have cx2 : w1.cell? ⟨w.heap.size + 1, 2, none⟩ = some (.int .i64 b) := kx.cell 2
    have cx3 : w1.cell? ⟨w.heap.size + 1, 3, none⟩ = some (.int .i64 c) := kx.cell 3
    have cx4 : w1.cell? ⟨w.heap.size + 1, 4, none⟩ = some (.bool s) := kx.cell 4
    have z1 := hb.size
    have lx := kx.lt
    have lp := kp.lt
    clear hb kp kx hcW
    go_wp2
    go_ret
    exact ⟨by rw [← hfin.out]; go_num, B1.out⟩
  subst hk
  rw [if_pos rfl] at hr'
  obtain ⟨n, hn, rfl⟩ := ok_a3 (k := 10) hx (by omega)
  obtain ⟨q, hq1, hq6, rfl⟩ := ok_skip hx rfl
  rw [Int.toNat_natCast, Int.toNat_natCast] at hr'
  obtain ⟨v, hv⟩ : ∃ v, f (6 + (t * 3 + n)) = v := ⟨_, rfl⟩
  rw [hv] at hr'
  have HV := Lib.hid hv
  have RG := Lib.hid (fun W' => reg_any f t n W' HF.out.ok ht3 hn v HV)
  clear hv hx
  by_cases h0 : v = 0
  rotate_left
  · rw [if_neg h0] at hr'
    have h0' : ((v : Int) == 0) = false := by simp [h0]
    have hfin := Lib.hid hr'
    clear h0 hr'
    go_enter Try.func193, Try.ntmps193
    go_wp2_with fail
    rw [← HW.out]
    refine EN.out.mono ?_
    rintro e w1 ⟨rfl, hb⟩
    have kp := K0.out.below hb K0.out.lt
    have kx := K1.out.below hb K1.out.lt
    have B1 := Lib.hid (below_on BW.out hb)
    have cp : w1.cell? ⟨w.heap.size, 0, none⟩ = some (.slice (some ⟨pb, po, none⟩) L.length c0) := kp.cell 0
    have hcw : w1.cell? ⟨pb, po + t, none⟩ = some (.slice Ai xs.length ci) := (hb.cell (p := ⟨pb, po + t, none⟩) (by show pb < W.heap.size; omega)).trans hcW
    have cx0 : w1.cell? ⟨w.heap.size + 1, 0, none⟩ = some (.int .i64 10) := kx.cell 0
    have cx1 : w1.cell? ⟨w.heap.size + 1, 1, none⟩ = some (.int .i64 n) := kx.cell 1
    have cx2 : w1.cell? ⟨w.heap.size + 1, 2, none⟩ = some (.int .i64 q) := kx.cell 2
    have cx3 : w1.cell? ⟨w.heap.size + 1, 3, none⟩ = some (.int .i64 c) := kx.cell 3
    have cx4 : w1.cell? ⟨w.heap.size + 1, 4, none⟩ = some (.bool s) := kx.cell 4
    have z1 := hb.size
    have lx := kx.lt
    have lp := kp.lt
    clear hb kp kx hcW
    go_wp2_with fail
    refine (RG.out _).mono ?_
    rintro e w2 ⟨rfl, hb⟩
    have cp2 := (hb.cell (p := ⟨w.heap.size, 0, none⟩) lp).trans cp
    have hc2 := (hb.cell (p := ⟨pb, po + t, none⟩) (by show pb < w1.heap.size; omega)).trans hcw
    have cx2b := (hb.cell (p := ⟨w.heap.size + 1, 2, none⟩) lx).trans cx2
    have B2 := Lib.hid (below_on B1.out hb)
    clear hb cp hcw cx0 cx1 cx2 cx3 cx4
    go_wp2
    go_ret
    exact ⟨by rw [← hfin.out]; go_num, B2.out⟩
  subst h0
  rw [if_pos rfl] at hr'
  have s1 : IntKind.i64.wrap ((m : Int) + 1) = (m : Int) + 1 := wrap64_small (by omega) (by omega)
  have s2 : IntKind.i64.wrap ((m : Int) + 1 + (q : Int)) = (m : Int) + 1 + (q : Int) := wrap64_small (by omega) (by omega)
  by_cases hle : m + 1 + q ≤ xs.length
  · have hfin : Hid (m + 1 + q = r) := Lib.hid (by rw [← hr']; omega)
    have hcmp : (m : Int) + 1 + (q : Int) ≤ (xs.length : Int) := by omega
    clear hr' hle
    go_enter Try.func193, Try.ntmps193
    go_wp2_with fail
    rw [← HW.out]
    refine EN.out.mono ?_
    rintro e w1 ⟨rfl, hb⟩
    have kp := K0.out.below hb K0.out.lt
    have kx := K1.out.below hb K1.out.lt
    have B1 := Lib.hid (below_on BW.out hb)
    have cp : w1.cell? ⟨w.heap.size, 0, none⟩ = some (.slice (some ⟨pb, po, none⟩) L.length c0) := kp.cell 0
    have hcw : w1.cell? ⟨pb, po + t, none⟩ = some (.slice Ai xs.length ci) := (hb.cell (p := ⟨pb, po + t, none⟩) (by show pb < W.heap.size; omega)).trans hcW
    have cx0 : w1.cell? ⟨w.heap.size + 1, 0, none⟩ = some (.int .i64 10) := kx.cell 0
    have cx1 : w1.cell? ⟨w.heap.size + 1, 1, none⟩ = some (.int .i64 n) := kx.cell 1
    have cx2 : w1.cell? ⟨w.heap.size + 1, 2, none⟩ = some (.int .i64 q) := kx.cell 2
    have cx3 : w1.cell? ⟨w.heap.size + 1, 3, none⟩ = some (.int .i64 c) := kx.cell 3
    have cx4 : w1.cell? ⟨w.heap.size + 1, 4, none⟩ = some (.bool s) := kx.cell 4
    have z1 := hb.size
    have lx := kx.lt
    have lp := kp.lt
    clear hb kp kx hcW
    go_wp2_with fail
    refine (RG.out _).mono ?_
    rintro e w2 ⟨rfl, hb⟩
    have cp2 := (hb.cell (p := ⟨w.heap.size, 0, none⟩) lp).trans cp
    have hc2 := (hb.cell (p := ⟨pb, po + t, none⟩) (by show pb < w1.heap.size; omega)).trans hcw
    have cx2b := (hb.cell (p := ⟨w.heap.size + 1, 2, none⟩) lx).trans cx2
    have B2 := Lib.hid (below_on B1.out hb)
    clear hb cp hcw cx0 cx1 cx2 cx3 cx4
    go_wp2
    go_quiet (fail)
    go_wp2
    go_ret
    refine ⟨?_, below_drewN B2.out _⟩
    rw [← hfin.out]
    simp
    try omega
  · have hfin : Hid (xs.length = r) := Lib.hid (by rw [← hr']; omega)
    have hcmp : ¬ (m : Int) + 1 + (q : Int) ≤ (xs.length : Int) := by omega
    clear hr' hle
    go_enter Try.func193, Try.ntmps193
    go_wp2_with fail
    rw [← HW.out]
    refine EN.out.mono ?_
    rintro e w1 ⟨rfl, hb⟩
    have kp := K0.out.below hb K0.out.lt
    have kx := K1.out.below hb K1.out.lt
    have B1 := Lib.hid (below_on BW.out hb)
    have cp : w1.cell? ⟨w.heap.size, 0, none⟩ = some (.slice (some ⟨pb, po, none⟩) L.length c0) := kp.cell 0
    have hcw : w1.cell? ⟨pb, po + t, none⟩ = some (.slice Ai xs.length ci) := (hb.cell (p := ⟨pb, po + t, none⟩) (by show pb < W.heap.size; omega)).trans hcW
    have cx0 : w1.cell? ⟨w.heap.size + 1, 0, none⟩ = some (.int .i64 10) := kx.cell 0
    have cx1 : w1.cell? ⟨w.heap.size + 1, 1, none⟩ = some (.int .i64 n) := kx.cell 1
    have cx2 : w1.cell? ⟨w.heap.size + 1, 2, none⟩ = some (.int .i64 q) := kx.cell 2
    have cx3 : w1.cell? ⟨w.heap.size + 1, 3, none⟩ = some (.int .i64 c) := kx.cell 3
    have cx4 : w1.cell? ⟨w.heap.size + 1, 4, none⟩ = some (.bool s) := kx.cell 4
    have z1 := hb.size
    have lx := kx.lt
    have lp := kp.lt
    clear hb kp kx hcW
    go_wp2_with fail
    refine (RG.out _).mono ?_
    rintro e w2 ⟨rfl, hb⟩
    have cp2 := (hb.cell (p := ⟨w.heap.size, 0, none⟩) lp).trans cp
    have hc2 := (hb.cell (p := ⟨pb, po + t, none⟩) (by show pb < w1.heap.size; omega)).trans hcw
    have cx2b := (hb.cell (p := ⟨w.heap.size + 1, 2, none⟩) lx).trans cx2
    have B2 := Lib.hid (below_on B1.out hb)
    clear hb cp hcw cx0 cx1 cx2 cx3 cx4
    go_wp2
    go_quiet (fail)
    go_wp2
    go_ret
    refine ⟨?_, below_drewN B2.out _⟩
    rw [← hfin.out]
    simp
    try omega

/-- The word behind the next statement of a thread. -/
def stepF (L : Pg) (f : Nat → Nat) (t : Nat) : Nat → Nat := keptF L (affF (upd f (3 + t) (nextF L f t (smAt L t (f (3 + t))))) t (smAt L t (f (3 + t)))) L.length
theorem affF_lo {f : Nat → Nat} {t : Nat} {x : Sm} {p : Nat} (hp : p < 6) : affF f t x p = f p := by
  unfold affF
  repeat' split
  all_goals (simp only [upd]; repeat' split)
  all_goals omega
theorem nextF_le {L : Pg} {f : Nat → Nat} {t : Nat} {x : Sm} (h : f (3 + t) < (L.getD t []).length) : nextF L f t x ≤ (L.getD t []).length := by
  unfold nextF
  repeat' split
  all_goals omega
theorem affF_ok {f : Nat → Nat} {t : Nat} {x : Sm} (hf : okF WS f) (ht : t < 3) (hx : x.okb = true) (h1 : x.k = 9 → ∀ n : Nat, x.b = (n : Int) → 1 ≤ f (20 + n) ∧ f (20 + n) ≤ 4) : okF WS (affF f t x) := by
  obtain ⟨k, a, b, c, s⟩ := x
  have hx' : okB k a b c s = true := hx
  have R : ∀ (g : Nat → Nat) (n v : Nat), okF WS g → n < 3 → v < 4 → okF WS (upd g (6 + (t * 3 + n)) v) := fun g n v hg hn hv => okF_upd fld1 hg (i := t * 3 + n) (show t * 3 + n < 9 by omega) (show v < 4 by omega)
  have M : ∀ (g : Nat → Nat) (n v : Nat), okF WS g → n < 3 → v < 4 → okF WS (upd g (15 + n) v) := fun g n v hg hn hv => okF_upd fld2 hg (i := n) hn (show v < 4 by omega)
  have O : ∀ (g : Nat → Nat) (n v : Nat), okF WS g → n < 2 → v < 4 → okF WS (upd g (18 + n) v) := fun g n v hg hn hv => okF_upd fld3 hg (i := n) hn (show v < 4 by omega)
  have C : ∀ (g : Nat → Nat) (n v : Nat), okF WS g → n < 2 → v < 8 → okF WS (upd g (20 + n) v) := fun g n v hg hn hv => okF_upd fld4 hg (i := n) hn (show v < 8 by omega)
  unfold affF
  simp only
  by_cases h0 : k = 0
  · rw [if_pos h0]; obtain ⟨n, hn, rfl⟩ := ok_a3 hx' (by omega); exact R _ _ _ hf hn (sumF_lt (ok_sum hx' (by omega)))
  rw [if_neg h0]
  by_cases h1' : k = 1
  · rw [if_pos h1']; obtain ⟨n, hn, rfl⟩ := ok_a3 hx' (by omega); obtain ⟨m, hm, rfl⟩ := ok_b3 hx' (by omega); exact R _ _ _ hf hn (mem_lt hf hm)
  rw [if_neg h1']
  by_cases h2 : k = 2
  · rw [if_pos h2]; obtain ⟨n, hn, rfl⟩ := ok_a3 hx' (by omega); exact M _ _ _ hf hn (sumF_lt (ok_sum hx' (by omega)))
  rw [if_neg h2]
  by_cases h3 : k = 3
  · rw [if_pos h3]; obtain ⟨n, hn, rfl⟩ := ok_a3 hx' (by omega); obtain ⟨m, hm, rfl⟩ := ok_b3 hx' (by omega); obtain ⟨q, hq, rfl⟩ := ok_c4 hx' (by omega); exact M _ _ _ (R _ _ _ hf hn (mem_lt hf hm)) hm hq
  rw [if_neg h3]
  by_cases h4 : k = 4
  · rw [if_pos h4]; obtain ⟨n, hn, rfl⟩ := ok_a3 hx' (by omega); obtain ⟨m, hm, rfl⟩ := ok_b3 hx' (by omega); exact M _ _ _ (R _ _ _ hf hn (mem_lt hf hm)) hm (Nat.mod_lt _ (by omega))
  rw [if_neg h4]
  by_cases h6 : k = 6
  · rw [if_pos h6]; obtain ⟨n, hn, rfl⟩ := ok_ab2 hx' (by omega); exact O _ _ _ hf hn (by omega)
  rw [if_neg h6]
  by_cases h7 : k = 7
  · rw [if_pos h7]; obtain ⟨n, hn, rfl⟩ := ok_ab2 hx' (by omega); exact O _ _ _ hf hn (by omega)
  rw [if_neg h7]
  by_cases h8 : k = 8
  · rw [if_pos h8]; obtain ⟨n, hn, rfl⟩ := ok_ab2 hx' (by omega); have := sumF_lt (f := f) (t := t) (ok_sum hx' (by omega)); exact C _ _ _ hf hn (by omega)
  rw [if_neg h8]
  by_cases h9 : k = 9
  · rw [if_pos h9]; obtain ⟨n, hn, rfl⟩ := ok_a3 hx' (by omega); obtain ⟨m, hm, rfl⟩ := ok_b2 hx' h9; have := h1 h9 m rfl; simp only [Int.toNat_natCast]; exact C _ _ _ (R _ _ _ hf hn (by omega)) hm (by omega)
  rw [if_neg h9]
  exact hf

end Go.Proofs.Ytiljakbjbiinkaa
