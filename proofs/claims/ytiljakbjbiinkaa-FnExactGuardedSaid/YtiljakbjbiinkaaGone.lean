/-
  What the program's goneOn comes to: the word with a thread behind a statement.
-/
import Derived.Test.YtiljakbjbiinkaaStepped
namespace Go.Proofs.Ytiljakbjbiinkaa
open Go.RowKit Pl Go.BigFrame
set_option maxHeartbeats 4000000
set_option maxRecDepth 100000
set_option linter.unusedVariables false

theorem upd_swap {f : Nat → Nat} {p q a b : Nat} (h : p ≠ q) : upd (upd f p a) q b = upd (upd f q b) p a := by
  funext z
  unfold upd
  by_cases h1 : z = q <;> by_cases h2 : z = p <;> simp_all
theorem aff_swap {f : Nat → Nat} {t v : Nat} {x : Sm} (ht : t < 3) : affF (upd f (3 + t) v) t x = upd (affF f t x) (3 + t) v := by
  have e : ∀ q, 6 ≤ q → upd f (3 + t) v q = f q := fun q hq => by unfold upd; rw [if_neg (by omega)]
  have s : ∀ b c, sumF (upd f (3 + t) v) t b c = sumF f t b c := fun b c => by unfold sumF; rw [e _ (by omega)]
  unfold affF
  simp only [s]
  rw [e (15 + x.b.toNat) (by omega), e (20 + x.b.toNat) (by omega)]
  repeat' split
  all_goals first
    | rfl
    | exact upd_swap (by omega)
    | (rw [upd_swap (p := 3 + t) (by omega), upd_swap (p := 3 + t) (by omega)])
theorem next_aff {L : Pg} {f : Nat → Nat} {t : Nat} {x : Sm} (ht : t < 3) : nextF L (affF f t x) t x = nextF L f t x := by
  unfold nextF
  by_cases h : x.k = 10
  · have : affF f t x = f := by unfold affF; simp [h]
    rw [this]
  · rw [if_neg h, if_neg h, affF_lo (by omega)]
/-- The word with a thread behind a statement. -/
def goF (L : Pg) (f : Nat → Nat) (t : Nat) (x : Sm) : Nat → Nat := keptF L (upd f (3 + t) (nextF L f t x)) L.length
theorem goF_aff {L : Pg} {f : Nat → Nat} {t : Nat} (ht : t < 3) : goF L (affF f t (smAt L t (f (3 + t)))) t (smAt L t (f (3 + t))) = stepF L f t := by
  unfold goF stepF
  rw [next_aff ht, aff_swap ht]
theorem upd_good {L : Pg} {f : Nat → Nat} {t : Nat} {x : Sm} (hf : Good L f) (hL : progB L = true) (ht : t < L.length) (hlt : f (3 + t) < (L.getD t []).length) : Good L (upd f (3 + t) (nextF L f t x)) := by
  obtain ⟨h31, h32⟩ := prog_len hL
  have hn := nextF_le (x := x) hlt
  obtain ⟨xs, hxs⟩ : ∃ xs, L[t]? = some xs := ⟨_, List.getElem?_eq_getElem ht⟩
  have hx6 := (prog_thr hL hxs).1
  rw [getD_some hxs] at hn
  refine ⟨okF_upd fld0 hf.ok (i := t) (show t < 3 by omega) (show nextF L f t x < 8 by omega), fun u ys hu => ?_⟩
  unfold upd
  by_cases e : 3 + u = 3 + t
  · rw [if_pos e]
    have e' : u = t := by omega
    subst e'
    rw [hxs] at hu; injection hu with hu; subst hu; exact hn
  · rw [if_neg e]; exact hf.at_ u ys hu
theorem goF_good {L : Pg} {f : Nat → Nat} {t : Nat} {x : Sm} (hf : Good L f) (hL : progB L = true) (ht : t < L.length) (hlt : f (3 + t) < (L.getD t []).length) : Good L (goF L f t x) :=
  keptF_good (upd_good hf hL ht hlt) (prog_len hL).2

theorem goneon_any (h : PgH) (L : Pg) (f : Nat → Nat) (t : Nat) (x : Sm) (w : World) (B : Nat) (hP : PgR w B h L) (hB : B ≤ w.heap.size) (hL : progB L = true) (hf : Good L f) (ht : t < L.length) (hlt : f (3 + t) < (L.getD t []).length) (hx : x.okb = true) (g : Nat → Nat) (hg : Hid (goF L f t x = g)) :
    Calls Try.prog 191 #[PgV h L, .int .u64 (enc WS f : Nat), .int .i64 t, x.val] w fun e w' => e = .returned (.int .u64 (enc WS g : Nat)) ∧ Below w.heap.size w w' := by
  obtain ⟨h31, h32⟩ := prog_len hL
  obtain ⟨A, c0⟩ := h
  have ht3 : t < 3 := by omega
  obtain ⟨xs, hxs⟩ : ∃ xs, L[t]? = some xs := ⟨_, List.getElem?_eq_getElem ht⟩
  have hx6 := (prog_thr hL hxs).1
  obtain ⟨nx, hnx⟩ : ∃ nx, nextF L f t x = nx := ⟨_, rfl⟩
  have hn := nextF_le (x := x) hlt
  rw [getD_some hxs, hnx] at hn
  have hG : Good L (upd f (3 + t) nx) := by rw [← hnx]; exact upd_good hf hL ht hlt
  obtain ⟨W, hW⟩ : ∃ W, W = (w.alloc (.cells #[.slice A L.length c0] 30)).alloc (.cells #[.int .i64 x.k, .int .i64 x.a, .int .i64 x.b, .int .i64 x.c, .bool x.s] 132) := ⟨_, rfl⟩
  have bW : Below w.heap.size w W := by rw [hW]; go_grown
  have k0 : Bk W w.heap.size 30 #[.slice A L.length c0] := by rw [hW]; exact (Bk.new w _ _).alloc _
  have k1 : Bk W (w.heap.size + 1) 132 #[.int .i64 x.k, .int .i64 x.a, .int .i64 x.b, .int .i64 x.c, .bool x.s] := by
    rw [hW]; have := Bk.new (w.alloc (.cells #[.slice A L.length c0] 30)) #[.int .i64 x.k, .int .i64 x.a, .int .i64 x.b, .int .i64 x.c, .bool x.s] 132
    rwa [World.size_alloc] at this
  have lp := k0.lt
  have lx := k1.lt
  have gp : ∀ y : Ws (Fr W []), y.val.cell? ⟨w.heap.size, 0, none⟩ = some (.slice A L.length c0) := Ws.same (bs := []) lp (k0.cell 0)
  have gx0 : ∀ y : Ws (Fr W []), y.val.cell? ⟨w.heap.size + 1, 0, none⟩ = some (.int .i64 x.k) := Ws.same (bs := []) lx (k1.cell 0)
  have gx1 : ∀ y : Ws (Fr W []), y.val.cell? ⟨w.heap.size + 1, 1, none⟩ = some (.int .i64 x.a) := Ws.same (bs := []) lx (k1.cell 1)
  have gx2 : ∀ y : Ws (Fr W []), y.val.cell? ⟨w.heap.size + 1, 2, none⟩ = some (.int .i64 x.b) := Ws.same (bs := []) lx (k1.cell 2)
  have gx3 : ∀ y : Ws (Fr W []), y.val.cell? ⟨w.heap.size + 1, 3, none⟩ = some (.int .i64 x.c) := Ws.same (bs := []) lx (k1.cell 3)
  have gx4 : ∀ y : Ws (Fr W []), y.val.cell? ⟨w.heap.size + 1, 4, none⟩ = some (.bool x.s) := Ws.same (bs := []) lx (k1.cell 4)
  have hBW : B ≤ W.heap.size := by have := bW.size; omega
  have hPW := hP.below bW hB
  have Gp := Lib.hid (fun y : Ws (Fr W []) => hPW.below y.ok.below hBW)
  have Gz := Lib.hid (fun y : Ws (Fr W []) => Nat.le_trans hBW y.ok.below.size)
  have HS := Lib.hid (fr_none W)
  haveI hne := Nonempty.intro (Ws.mk _ (fr_none W))
  have hfin : Hid (keptF L (upd f (3 + t) nx) L.length = g) := Lib.hid (by rw [← hg.out, ← hnx]; rfl)
  have HG := Lib.hid hG
  have HF := Lib.hid hf
  have NX := Lib.hid hnx
  have LT := Lib.hid hlt
  have BW := Lib.hid bW
  have HW := Lib.hid hW
  clear hW bW k0 k1 hP hPW hG hf hnx hlt hg hxs
  go_enter Try.func191, Try.ntmps191
  go_wp2_with fail
  rw [← HW.out]
  refine region_in (by kernel_rfl) HS.out.drew ?_
  repeat (go_big_quiet_step (first | (go_at_call 193; exact call_in (nextat_any ⟨A, c0⟩ L f t x _ B (Gp.out _) (Gz.out _) hL HF.out ht LT.out hx nx NX)) | (go_at_call 155; exact call_in (wentF fld0 HF.out.ok t nx _ (show t < 3 by omega) (show nx < 8 by omega) (by simp [fL]) _)) | (go_at_call 161; exact call_in (kept_any ⟨A, c0⟩ L (upd f (3 + t) nx) _ B (Gp.out _) (Gz.out _) hL HG.out))))
  refine wpQuiet_nil ?_
  rintro _ ⟨⟨w5, hw5⟩, rfl⟩
  have hB5 := below_on BW.out hw5.below
  clear gp gx0 gx1 gx2 gx3 gx4
  go_wp2
  go_ret
  exact ⟨by rw [← hfin.out]; rfl, hB5⟩
end Go.Proofs.Ytiljakbjbiinkaa
